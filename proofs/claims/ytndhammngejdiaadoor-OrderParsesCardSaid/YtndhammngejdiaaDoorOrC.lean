/-
  Commands: which are right.
-/
import Derived.Test.YtndhammngejdiaaDoorOrB

namespace Go.Proofs.YtndhammngejdiaaDoor.od
open Go.RowKit
open base (ret_bool ret_int made up Blk Only Nums)
open bytes (Small small_nil Lay By str)
open vi (bs)
set_option linter.unusedVariables false
set_option linter.unusedSimpArgs false
theorem setF_ok {x q : Cm} (hx : x.Ok) (hq : q.Ok) (f : Nat) : (setF x q f).Ok := by
  unfold setF
  split
  · exact ⟨hq.s, hq.w, hq.k, hq.a, hq.b, hq.c, hq.d, hx.t, hq.l⟩
  split
  · exact ⟨hq.s, hq.w, hq.k, hx.a, hq.b, hq.c, hq.d, hq.t, hq.l⟩
  split
  · exact ⟨hq.s, hq.w, hq.k, hq.a, hx.b, hq.c, hq.d, hq.t, hq.l⟩
  split
  · exact ⟨hq.s, hq.w, hq.k, hq.a, hq.b, hx.c, hq.d, hq.t, hq.l⟩
  · exact ⟨hq.s, hq.w, hq.k, hq.a, hq.b, hq.c, hx.d, hq.t, hq.l⟩
theorem fold_ok {x : Cm} (hx : x.Ok) : ∀ (l : List Nat) {q : Cm}, q.Ok → (l.foldl (setF x) q).Ok
  | [], _, hq => hq
  | f :: l, _, hq => fold_ok hx l (setF_ok hx hq f)
theorem wf0 : (Lit.int .i64 0).wf = true := by decide
theorem sz0 : (⟨#[]⟩ : ByteArray).size ≤ maxLen := Nat.zero_le _
theorem plain_ok {x : Cm} (hx : x.Ok) : (plainM x).Ok := by
  unfold plainM
  split
  · exact fold_ok hx _ ⟨hx.s, wf0, hx.k, wf0, wf0, wf0, wf0, sz0, hx.l⟩
  · exact ⟨hx.s, wf0, wf0, wf0, wf0, wf0, wf0, sz0, hx.l⟩
noncomputable def rightM (x : Cm) : Bool := if x.s < 0 ∨ 1048576 < x.s then false else if eqb x (plainM x) = false then false else if x.l.size = 0 then (decide (1 ≤ x.k ∧ x.k ≤ 27) && decide (x.t.size ≤ 16)) else (nm.okN x.l && decide (x.s ≠ 0))
def BoolP (b : Bool) (w : World) (e : Ending) (w' : World) : Prop := e = .returned (.bool b) ∧ Below w.heap.size w w'
set_option maxRecDepth 100000 in
set_option maxHeartbeats 4000000 in
theorem right_lo (x : Cm) (w : World) (h : x.s < 0) : Calls Tryd.prog 12 #[.agg #[.int .i64 x.s, .int .i64 x.w, .int .i64 x.k, .int .i64 x.a, .int .i64 x.b, .int .i64 x.c, .int .i64 x.d, .string x.t, .string x.l]] w (BoolP false w) := by
  have k1 : decide (x.s < 0) = true := decide_eq_true h
  have M1 := Lib.hid (made w (.cells #[.int .i64 x.s, .int .i64 x.w, .int .i64 x.k, .int .i64 x.a, .int .i64 x.b, .int .i64 x.c, .int .i64 x.d, .string x.t, .string x.l] 25))
  have bx := Blk.new w 25 #[.int .i64 x.s, .int .i64 x.w, .int .i64 x.k, .int .i64 x.a, .int .i64 x.b, .int .i64 x.c, .int .i64 x.d, .string x.t, .string x.l]
  have BX := Lib.hid bx
  have b0 := bx.cell 0
  have b1 := bx.cell 1
  have b2 := bx.cell 2
  have b3 := bx.cell 3
  have b4 := bx.cell 4
  have b5 := bx.cell 5
  have b6 := bx.cell 6
  have b7 := bx.cell 7
  have b8 := bx.cell 8
  clear bx
  generalize hw1 : w.alloc (.cells #[.int .i64 x.s, .int .i64 x.w, .int .i64 x.k, .int .i64 x.a, .int .i64 x.b, .int .i64 x.c, .int .i64 x.d, .string x.t, .string x.l] 25) = w1 at *
  go_enter Tryd.func12, Tryd.ntmps12
  go_upto_region 1 with (rw [hw1])
  refine wp_region_held_drew (S := fun ws => ws.cell? ⟨w.heap.size, 0, none⟩ = some (.int .i64 x.s) ∧ ws.cell? ⟨w.heap.size, 1, none⟩ = some (.int .i64 x.w) ∧ ws.cell? ⟨w.heap.size, 2, none⟩ = some (.int .i64 x.k) ∧ ws.cell? ⟨w.heap.size, 3, none⟩ = some (.int .i64 x.a) ∧ ws.cell? ⟨w.heap.size, 4, none⟩ = some (.int .i64 x.b) ∧ ws.cell? ⟨w.heap.size, 5, none⟩ = some (.int .i64 x.c) ∧ ws.cell? ⟨w.heap.size, 6, none⟩ = some (.int .i64 x.d) ∧ ws.cell? ⟨w.heap.size, 7, none⟩ = some (.string x.t) ∧ ws.cell? ⟨w.heap.size, 8, none⟩ = some (.string x.l)) (by kernel_rfl) ⟨b0, b1, b2, b3, b4, b5, b6, b7, b8⟩ (fun hHeld => ?_)
  refine wpAnyH_take (i := 0) (v := ?_) rfl (by kernel_rfl) (by kernel_rfl) (by kernel_rfl) (fun _ _ _ h => h) (Or.inl ⟨by rfl, ?_⟩) (by assumption) ?_
  rotate_left
  · (intro w hSw; (try dsimp only at hSw); first | (go_simp; done) | (go_simp; with_reducible rfl))
  simp only [Act.put, List.getElem_toArray, List.getElem_cons_zero, List.getElem_cons_succ, List.setIfInBounds_toArray, List.set_cons_zero, List.set_cons_succ]
  refine wpAnyH_take (i := 1) (v := ?_) rfl (by kernel_rfl) (by kernel_rfl) (by kernel_rfl) (fun _ _ _ h => h) (Or.inl ⟨by rfl, ?_⟩) (by assumption) ?_
  rotate_left
  · (intro w hSw; (try dsimp only at hSw); first | (go_simp; done) | (go_simp; with_reducible rfl))
  simp only [Act.put, List.getElem_toArray, List.getElem_cons_zero, List.getElem_cons_succ, List.setIfInBounds_toArray, List.set_cons_zero, List.set_cons_succ]
  refine wpAnyH_take (i := 2) (v := ?_) rfl (by kernel_rfl) (by kernel_rfl) (by kernel_rfl) (fun _ _ _ h => h) (Or.inl ⟨by rfl, ?_⟩) (by assumption) ?_
  rotate_left
  · (intro w hSw; (try dsimp only at hSw); first | (go_simp; done) | (go_simp; with_reducible rfl))
  simp only [Act.put, List.getElem_toArray, List.getElem_cons_zero, List.getElem_cons_succ, List.setIfInBounds_toArray, List.set_cons_zero, List.set_cons_succ]
  refine wpAnyH_take (i := 3) (v := ?_) rfl (by kernel_rfl) (by kernel_rfl) (by kernel_rfl) (fun _ _ _ h => h) (Or.inl ⟨by rfl, ?_⟩) (by assumption) ?_
  rotate_left
  · (intro w hSw; (try dsimp only at hSw); first | (go_simp; done) | (go_simp; with_reducible rfl))
  simp only [Act.put, List.getElem_toArray, List.getElem_cons_zero, List.getElem_cons_succ, List.setIfInBounds_toArray, List.set_cons_zero, List.set_cons_succ]
  refine wpAnyH_take (i := 4) (v := undef) rfl (by kernel_rfl) (by kernel_rfl) (by kernel_rfl) (fun _ _ _ h => h) (Or.inr ⟨by rfl, rfl⟩) (by assumption) ?_
  simp only [Act.put, List.getElem_toArray, List.getElem_cons_zero, List.getElem_cons_succ, List.setIfInBounds_toArray, List.set_cons_zero, List.set_cons_succ]
  refine wpAnyH_take (i := 5) (v := undef) rfl (by kernel_rfl) (by kernel_rfl) (by kernel_rfl) (fun _ _ _ h => h) (Or.inr ⟨by rfl, rfl⟩) (by assumption) ?_
  simp only [Act.put, List.getElem_toArray, List.getElem_cons_zero, List.getElem_cons_succ, List.setIfInBounds_toArray, List.set_cons_zero, List.set_cons_succ]
  refine wpAnyH_take (i := 6) (v := undef) rfl (by kernel_rfl) (by kernel_rfl) (by kernel_rfl) (fun _ _ _ h => h) (Or.inr ⟨by rfl, rfl⟩) (by assumption) ?_
  simp only [Act.put, List.getElem_toArray, List.getElem_cons_zero, List.getElem_cons_succ, List.setIfInBounds_toArray, List.set_cons_zero, List.set_cons_succ]
  refine wpAnyH_take (i := 7) (v := ?_) rfl (by kernel_rfl) (by kernel_rfl) (by kernel_rfl) (fun _ _ _ h => h) (Or.inl ⟨by rfl, ?_⟩) (by assumption) ?_
  rotate_left
  · (intro w hSw; (try dsimp only at hSw); first | (go_simp; done) | (go_simp; with_reducible rfl))
  simp only [Act.put, List.getElem_toArray, List.getElem_cons_zero, List.getElem_cons_succ, List.setIfInBounds_toArray, List.set_cons_zero, List.set_cons_succ]
  refine wpAnyH_take (i := 8) (v := ?_) rfl (by kernel_rfl) (by kernel_rfl) (by kernel_rfl) (fun _ _ _ h => h) (Or.inl ⟨by rfl, ?_⟩) (by assumption) ?_
  rotate_left
  · (intro w hSw; (try dsimp only at hSw); first | (go_simp; done) | (go_simp; with_reducible rfl))
  simp only [Act.put, List.getElem_toArray, List.getElem_cons_zero, List.getElem_cons_succ, List.setIfInBounds_toArray, List.set_cons_zero, List.set_cons_succ]
  refine wpAnyH_take (i := 9) (v := undef) rfl (by kernel_rfl) (by kernel_rfl) (by kernel_rfl) (fun _ _ _ h => h) (Or.inr ⟨by rfl, rfl⟩) (by assumption) ?_
  simp only [Act.put, List.getElem_toArray, List.getElem_cons_zero, List.getElem_cons_succ, List.setIfInBounds_toArray, List.set_cons_zero, List.set_cons_succ]
  refine wpAnyH_take (i := 10) (v := undef) rfl (by kernel_rfl) (by kernel_rfl) (by kernel_rfl) (fun _ _ _ h => h) (Or.inr ⟨by rfl, rfl⟩) (by assumption) ?_
  simp only [Act.put, List.getElem_toArray, List.getElem_cons_zero, List.getElem_cons_succ, List.setIfInBounds_toArray, List.set_cons_zero, List.set_cons_succ]
  refine wpAnyH_take (i := 11) (v := undef) rfl (by kernel_rfl) (by kernel_rfl) (by kernel_rfl) (fun _ _ _ h => h) (Or.inr ⟨by rfl, rfl⟩) (by assumption) ?_
  simp only [Act.put, List.getElem_toArray, List.getElem_cons_zero, List.getElem_cons_succ, List.setIfInBounds_toArray, List.set_cons_zero, List.set_cons_succ]
  refine wpAnyH_take (i := 12) (v := undef) rfl (by kernel_rfl) (by kernel_rfl) (by kernel_rfl) (fun _ _ _ h => h) (Or.inr ⟨by rfl, rfl⟩) (by assumption) ?_
  simp only [Act.put, List.getElem_toArray, List.getElem_cons_zero, List.getElem_cons_succ, List.setIfInBounds_toArray, List.set_cons_zero, List.set_cons_succ]
  refine wpAnyH_take (i := 13) (v := ?_) rfl (by kernel_rfl) (by kernel_rfl) (by kernel_rfl) (fun _ _ _ h => h) (Or.inl ⟨by rfl, ?_⟩) (by assumption) ?_
  rotate_left
  · (intro w hSw; (try dsimp only at hSw); first | (go_simp; done) | (go_simp; with_reducible rfl))
  simp only [Act.put, List.getElem_toArray, List.getElem_cons_zero, List.getElem_cons_succ, List.setIfInBounds_toArray, List.set_cons_zero, List.set_cons_succ]
  refine wpAnyH_done (by kernel_rfl) ?_ _
  clear hHeld
  go_wp2_with fail
  go_ret
  exact ⟨rfl, base.below_drewN M1.out 1⟩
set_option maxRecDepth 100000 in
set_option maxHeartbeats 4000000 in
theorem right_hi (x : Cm) (w : World) (h : 1048576 < x.s) : Calls Tryd.prog 12 #[.agg #[.int .i64 x.s, .int .i64 x.w, .int .i64 x.k, .int .i64 x.a, .int .i64 x.b, .int .i64 x.c, .int .i64 x.d, .string x.t, .string x.l]] w (BoolP false w) := by
  have k1 : decide (x.s < 0) = false := decide_eq_false (by omega)
  have k2 : decide (x.s > 1048576) = true := decide_eq_true h
  have M1 := Lib.hid (made w (.cells #[.int .i64 x.s, .int .i64 x.w, .int .i64 x.k, .int .i64 x.a, .int .i64 x.b, .int .i64 x.c, .int .i64 x.d, .string x.t, .string x.l] 25))
  have bx := Blk.new w 25 #[.int .i64 x.s, .int .i64 x.w, .int .i64 x.k, .int .i64 x.a, .int .i64 x.b, .int .i64 x.c, .int .i64 x.d, .string x.t, .string x.l]
  have BX := Lib.hid bx
  have b0 := bx.cell 0
  have b1 := bx.cell 1
  have b2 := bx.cell 2
  have b3 := bx.cell 3
  have b4 := bx.cell 4
  have b5 := bx.cell 5
  have b6 := bx.cell 6
  have b7 := bx.cell 7
  have b8 := bx.cell 8
  clear bx
  generalize hw1 : w.alloc (.cells #[.int .i64 x.s, .int .i64 x.w, .int .i64 x.k, .int .i64 x.a, .int .i64 x.b, .int .i64 x.c, .int .i64 x.d, .string x.t, .string x.l] 25) = w1 at *
  go_enter Tryd.func12, Tryd.ntmps12
  go_upto_region 1 with (rw [hw1])
  refine wp_region_held_drew (S := fun ws => ws.cell? ⟨w.heap.size, 0, none⟩ = some (.int .i64 x.s) ∧ ws.cell? ⟨w.heap.size, 1, none⟩ = some (.int .i64 x.w) ∧ ws.cell? ⟨w.heap.size, 2, none⟩ = some (.int .i64 x.k) ∧ ws.cell? ⟨w.heap.size, 3, none⟩ = some (.int .i64 x.a) ∧ ws.cell? ⟨w.heap.size, 4, none⟩ = some (.int .i64 x.b) ∧ ws.cell? ⟨w.heap.size, 5, none⟩ = some (.int .i64 x.c) ∧ ws.cell? ⟨w.heap.size, 6, none⟩ = some (.int .i64 x.d) ∧ ws.cell? ⟨w.heap.size, 7, none⟩ = some (.string x.t) ∧ ws.cell? ⟨w.heap.size, 8, none⟩ = some (.string x.l)) (by kernel_rfl) ⟨b0, b1, b2, b3, b4, b5, b6, b7, b8⟩ (fun hHeld => ?_)
  refine wpAnyH_take (i := 0) (v := ?_) rfl (by kernel_rfl) (by kernel_rfl) (by kernel_rfl) (fun _ _ _ h => h) (Or.inl ⟨by rfl, ?_⟩) (by assumption) ?_
  rotate_left
  · (intro w hSw; (try dsimp only at hSw); first | (go_simp; done) | (go_simp; with_reducible rfl))
  simp only [Act.put, List.getElem_toArray, List.getElem_cons_zero, List.getElem_cons_succ, List.setIfInBounds_toArray, List.set_cons_zero, List.set_cons_succ]
  refine wpAnyH_take (i := 1) (v := ?_) rfl (by kernel_rfl) (by kernel_rfl) (by kernel_rfl) (fun _ _ _ h => h) (Or.inl ⟨by rfl, ?_⟩) (by assumption) ?_
  rotate_left
  · (intro w hSw; (try dsimp only at hSw); first | (go_simp; done) | (go_simp; with_reducible rfl))
  simp only [Act.put, List.getElem_toArray, List.getElem_cons_zero, List.getElem_cons_succ, List.setIfInBounds_toArray, List.set_cons_zero, List.set_cons_succ]
  refine wpAnyH_take (i := 2) (v := ?_) rfl (by kernel_rfl) (by kernel_rfl) (by kernel_rfl) (fun _ _ _ h => h) (Or.inl ⟨by rfl, ?_⟩) (by assumption) ?_
  rotate_left
  · (intro w hSw; (try dsimp only at hSw); first | (go_simp; done) | (go_simp; with_reducible rfl))
  simp only [Act.put, List.getElem_toArray, List.getElem_cons_zero, List.getElem_cons_succ, List.setIfInBounds_toArray, List.set_cons_zero, List.set_cons_succ]
  refine wpAnyH_take (i := 3) (v := ?_) rfl (by kernel_rfl) (by kernel_rfl) (by kernel_rfl) (fun _ _ _ h => h) (Or.inl ⟨by rfl, ?_⟩) (by assumption) ?_
  rotate_left
  · (intro w hSw; (try dsimp only at hSw); first | (go_simp; done) | (go_simp; with_reducible rfl))
  simp only [Act.put, List.getElem_toArray, List.getElem_cons_zero, List.getElem_cons_succ, List.setIfInBounds_toArray, List.set_cons_zero, List.set_cons_succ]
  refine wpAnyH_take (i := 4) (v := ?_) rfl (by kernel_rfl) (by kernel_rfl) (by kernel_rfl) (fun _ _ _ h => h) (Or.inl ⟨by rfl, ?_⟩) (by assumption) ?_
  rotate_left
  · (intro w hSw; (try dsimp only at hSw); first | (go_simp; done) | (go_simp; with_reducible rfl))
  simp only [Act.put, List.getElem_toArray, List.getElem_cons_zero, List.getElem_cons_succ, List.setIfInBounds_toArray, List.set_cons_zero, List.set_cons_succ]
  refine wpAnyH_take (i := 5) (v := ?_) rfl (by kernel_rfl) (by kernel_rfl) (by kernel_rfl) (fun _ _ _ h => h) (Or.inl ⟨by rfl, ?_⟩) (by assumption) ?_
  rotate_left
  · (intro w hSw; (try dsimp only at hSw); first | (go_simp; done) | (go_simp; with_reducible rfl))
  simp only [Act.put, List.getElem_toArray, List.getElem_cons_zero, List.getElem_cons_succ, List.setIfInBounds_toArray, List.set_cons_zero, List.set_cons_succ]
  refine wpAnyH_take (i := 6) (v := ?_) rfl (by kernel_rfl) (by kernel_rfl) (by kernel_rfl) (fun _ _ _ h => h) (Or.inl ⟨by rfl, ?_⟩) (by assumption) ?_
  rotate_left
  · (intro w hSw; (try dsimp only at hSw); first | (go_simp; done) | (go_simp; with_reducible rfl))
  simp only [Act.put, List.getElem_toArray, List.getElem_cons_zero, List.getElem_cons_succ, List.setIfInBounds_toArray, List.set_cons_zero, List.set_cons_succ]
  refine wpAnyH_take (i := 7) (v := ?_) rfl (by kernel_rfl) (by kernel_rfl) (by kernel_rfl) (fun _ _ _ h => h) (Or.inl ⟨by rfl, ?_⟩) (by assumption) ?_
  rotate_left
  · (intro w hSw; (try dsimp only at hSw); first | (go_simp; done) | (go_simp; with_reducible rfl))
  simp only [Act.put, List.getElem_toArray, List.getElem_cons_zero, List.getElem_cons_succ, List.setIfInBounds_toArray, List.set_cons_zero, List.set_cons_succ]
  refine wpAnyH_take (i := 8) (v := ?_) rfl (by kernel_rfl) (by kernel_rfl) (by kernel_rfl) (fun _ _ _ h => h) (Or.inl ⟨by rfl, ?_⟩) (by assumption) ?_
  rotate_left
  · (intro w hSw; (try dsimp only at hSw); first | (go_simp; done) | (go_simp; with_reducible rfl))
  simp only [Act.put, List.getElem_toArray, List.getElem_cons_zero, List.getElem_cons_succ, List.setIfInBounds_toArray, List.set_cons_zero, List.set_cons_succ]
  refine wpAnyH_take (i := 9) (v := undef) rfl (by kernel_rfl) (by kernel_rfl) (by kernel_rfl) (fun _ _ _ h => h) (Or.inr ⟨by rfl, rfl⟩) (by assumption) ?_
  simp only [Act.put, List.getElem_toArray, List.getElem_cons_zero, List.getElem_cons_succ, List.setIfInBounds_toArray, List.set_cons_zero, List.set_cons_succ]
  refine wpAnyH_take (i := 10) (v := undef) rfl (by kernel_rfl) (by kernel_rfl) (by kernel_rfl) (fun _ _ _ h => h) (Or.inr ⟨by rfl, rfl⟩) (by assumption) ?_
  simp only [Act.put, List.getElem_toArray, List.getElem_cons_zero, List.getElem_cons_succ, List.setIfInBounds_toArray, List.set_cons_zero, List.set_cons_succ]
  refine wpAnyH_take (i := 11) (v := undef) rfl (by kernel_rfl) (by kernel_rfl) (by kernel_rfl) (fun _ _ _ h => h) (Or.inr ⟨by rfl, rfl⟩) (by assumption) ?_
  simp only [Act.put, List.getElem_toArray, List.getElem_cons_zero, List.getElem_cons_succ, List.setIfInBounds_toArray, List.set_cons_zero, List.set_cons_succ]
  refine wpAnyH_take (i := 12) (v := undef) rfl (by kernel_rfl) (by kernel_rfl) (by kernel_rfl) (fun _ _ _ h => h) (Or.inr ⟨by rfl, rfl⟩) (by assumption) ?_
  simp only [Act.put, List.getElem_toArray, List.getElem_cons_zero, List.getElem_cons_succ, List.setIfInBounds_toArray, List.set_cons_zero, List.set_cons_succ]
  refine wpAnyH_take (i := 13) (v := ?_) rfl (by kernel_rfl) (by kernel_rfl) (by kernel_rfl) (fun _ _ _ h => h) (Or.inl ⟨by rfl, ?_⟩) (by assumption) ?_
  rotate_left
  · (intro w hSw; (try dsimp only at hSw); first | (go_simp; done) | (go_simp; with_reducible rfl))
  simp only [Act.put, List.getElem_toArray, List.getElem_cons_zero, List.getElem_cons_succ, List.setIfInBounds_toArray, List.set_cons_zero, List.set_cons_succ]
  refine wpAnyH_done (by kernel_rfl) ?_ _
  clear hHeld
  go_wp2_with fail
  go_ret
  exact ⟨rfl, base.below_drewN M1.out 1⟩
set_option maxRecDepth 100000 in
set_option maxHeartbeats 8000000 in
theorem right_ne (x : Cm) (w : World) (hT : Tab w) (hx : x.Ok) (h1 : 0 ≤ x.s) (h2 : x.s ≤ 1048576) (hq : eqb x (plainM x) = false)  : Calls Tryd.prog 12 #[.agg #[.int .i64 x.s, .int .i64 x.w, .int .i64 x.k, .int .i64 x.a, .int .i64 x.b, .int .i64 x.c, .int .i64 x.d, .string x.t, .string x.l]] w (BoolP false w) := by
  have k1 : decide (x.s < 0) = false := decide_eq_false (by omega)
  have k2 : decide (x.s > 1048576) = false := decide_eq_false (by omega)
  have hne := fun w => run_neq hx (plain_ok hx) w
  rw [hq] at hne
  have T1 := Lib.hid (hT.keep (made w (.cells #[.int .i64 x.s, .int .i64 x.w, .int .i64 x.k, .int .i64 x.a, .int .i64 x.b, .int .i64 x.c, .int .i64 x.d, .string x.t, .string x.l] 25)))
  have M1 := Lib.hid (made w (.cells #[.int .i64 x.s, .int .i64 x.w, .int .i64 x.k, .int .i64 x.a, .int .i64 x.b, .int .i64 x.c, .int .i64 x.d, .string x.t, .string x.l] 25))
  have bx := Blk.new w 25 #[.int .i64 x.s, .int .i64 x.w, .int .i64 x.k, .int .i64 x.a, .int .i64 x.b, .int .i64 x.c, .int .i64 x.d, .string x.t, .string x.l]
  have BX := Lib.hid bx
  have b0 := bx.cell 0
  have b1 := bx.cell 1
  have b2 := bx.cell 2
  have b3 := bx.cell 3
  have b4 := bx.cell 4
  have b5 := bx.cell 5
  have b6 := bx.cell 6
  have b7 := bx.cell 7
  have b8 := bx.cell 8
  clear bx
  generalize hw1 : w.alloc (.cells #[.int .i64 x.s, .int .i64 x.w, .int .i64 x.k, .int .i64 x.a, .int .i64 x.b, .int .i64 x.c, .int .i64 x.d, .string x.t, .string x.l] 25) = w1 at *
  have PL := Lib.hid (plain_any x w1.drew (T1.out.keep (Below.refl _ _).drew))
  clear h1 h2 hT hx
  unfold PlainP at PL
  generalize plainM x = p at *
  go_enter Tryd.func12, Tryd.ntmps12
  go_upto_region 1 with (rw [hw1])
  refine wp_region_held_drew (S := fun ws => ws.cell? ⟨w.heap.size, 0, none⟩ = some (.int .i64 x.s) ∧ ws.cell? ⟨w.heap.size, 1, none⟩ = some (.int .i64 x.w) ∧ ws.cell? ⟨w.heap.size, 2, none⟩ = some (.int .i64 x.k) ∧ ws.cell? ⟨w.heap.size, 3, none⟩ = some (.int .i64 x.a) ∧ ws.cell? ⟨w.heap.size, 4, none⟩ = some (.int .i64 x.b) ∧ ws.cell? ⟨w.heap.size, 5, none⟩ = some (.int .i64 x.c) ∧ ws.cell? ⟨w.heap.size, 6, none⟩ = some (.int .i64 x.d) ∧ ws.cell? ⟨w.heap.size, 7, none⟩ = some (.string x.t) ∧ ws.cell? ⟨w.heap.size, 8, none⟩ = some (.string x.l)) (by kernel_rfl) ⟨b0, b1, b2, b3, b4, b5, b6, b7, b8⟩ (fun hHeld => ?_)
  have BXD := Lib.hid (show Blk w1.drew w.heap.size 25 #[.int .i64 x.s, .int .i64 x.w, .int .i64 x.k, .int .i64 x.a, .int .i64 x.b, .int .i64 x.c, .int .i64 x.d, .string x.t, .string x.l] from BX.out.drewN 1)
  have MD := Lib.hid (show Below w.heap.size w w1.drew from base.below_drewN M1.out 1)
  generalize w1.drew = w2 at *
  have KS := Lib.hid (fun ws (h : Below w2.heap.size w2 ws) => (show ws.cell? ⟨w.heap.size, 0, none⟩ = some (.int .i64 x.s) ∧ ws.cell? ⟨w.heap.size, 1, none⟩ = some (.int .i64 x.w) ∧ ws.cell? ⟨w.heap.size, 2, none⟩ = some (.int .i64 x.k) ∧ ws.cell? ⟨w.heap.size, 3, none⟩ = some (.int .i64 x.a) ∧ ws.cell? ⟨w.heap.size, 4, none⟩ = some (.int .i64 x.b) ∧ ws.cell? ⟨w.heap.size, 5, none⟩ = some (.int .i64 x.c) ∧ ws.cell? ⟨w.heap.size, 6, none⟩ = some (.int .i64 x.d) ∧ ws.cell? ⟨w.heap.size, 7, none⟩ = some (.string x.t) ∧ ws.cell? ⟨w.heap.size, 8, none⟩ = some (.string x.l) from ⟨(BXD.out.below h BXD.out.lt).cell 0, (BXD.out.below h BXD.out.lt).cell 1, (BXD.out.below h BXD.out.lt).cell 2, (BXD.out.below h BXD.out.lt).cell 3, (BXD.out.below h BXD.out.lt).cell 4, (BXD.out.below h BXD.out.lt).cell 5, (BXD.out.below h BXD.out.lt).cell 6, (BXD.out.below h BXD.out.lt).cell 7, (BXD.out.below h BXD.out.lt).cell 8⟩))
  refine wpAnyH_take (i := 0) (v := ?_) rfl (by kernel_rfl) (by kernel_rfl) (by kernel_rfl) (fun _ _ _ h => h) (Or.inl ⟨by rfl, ?_⟩) (by assumption) ?_
  rotate_left
  · (intro w hSw; (try dsimp only at hSw); first | (go_simp; done) | (go_simp; with_reducible rfl))
  simp only [Act.put, List.getElem_toArray, List.getElem_cons_zero, List.getElem_cons_succ, List.setIfInBounds_toArray, List.set_cons_zero, List.set_cons_succ]
  refine wpAnyH_take (i := 1) (v := ?_) rfl (by kernel_rfl) (by kernel_rfl) (by kernel_rfl) (fun _ _ _ h => h) (Or.inl ⟨by rfl, ?_⟩) (by assumption) ?_
  rotate_left
  · (intro w hSw; (try dsimp only at hSw); first | (go_simp; done) | (go_simp; with_reducible rfl))
  simp only [Act.put, List.getElem_toArray, List.getElem_cons_zero, List.getElem_cons_succ, List.setIfInBounds_toArray, List.set_cons_zero, List.set_cons_succ]
  refine wpAnyH_take (i := 2) (v := ?_) rfl (by kernel_rfl) (by kernel_rfl) (by kernel_rfl) (fun _ _ _ h => h) (Or.inl ⟨by rfl, ?_⟩) (by assumption) ?_
  rotate_left
  · (intro w hSw; (try dsimp only at hSw); first | (go_simp; done) | (go_simp; with_reducible rfl))
  simp only [Act.put, List.getElem_toArray, List.getElem_cons_zero, List.getElem_cons_succ, List.setIfInBounds_toArray, List.set_cons_zero, List.set_cons_succ]
  refine wpAnyH_take (i := 3) (v := ?_) rfl (by kernel_rfl) (by kernel_rfl) (by kernel_rfl) (fun _ _ _ h => h) (Or.inl ⟨by rfl, ?_⟩) (by assumption) ?_
  rotate_left
  · (intro w hSw; (try dsimp only at hSw); first | (go_simp; done) | (go_simp; with_reducible rfl))
  simp only [Act.put, List.getElem_toArray, List.getElem_cons_zero, List.getElem_cons_succ, List.setIfInBounds_toArray, List.set_cons_zero, List.set_cons_succ]
  refine wpAnyH_take (i := 4) (v := ?_) rfl (by kernel_rfl) (by kernel_rfl) (by kernel_rfl) (fun _ _ _ h => h) (Or.inl ⟨by rfl, ?_⟩) (by assumption) ?_
  rotate_left
  · (intro w hSw; (try dsimp only at hSw); first | (go_simp; done) | (go_simp; with_reducible rfl))
  simp only [Act.put, List.getElem_toArray, List.getElem_cons_zero, List.getElem_cons_succ, List.setIfInBounds_toArray, List.set_cons_zero, List.set_cons_succ]
  refine wpAnyH_take (i := 5) (v := ?_) rfl (by kernel_rfl) (by kernel_rfl) (by kernel_rfl) (fun _ _ _ h => h) (Or.inl ⟨by rfl, ?_⟩) (by assumption) ?_
  rotate_left
  · (intro w hSw; (try dsimp only at hSw); first | (go_simp; done) | (go_simp; with_reducible rfl))
  simp only [Act.put, List.getElem_toArray, List.getElem_cons_zero, List.getElem_cons_succ, List.setIfInBounds_toArray, List.set_cons_zero, List.set_cons_succ]
  refine wpAnyH_take (i := 6) (v := ?_) rfl (by kernel_rfl) (by kernel_rfl) (by kernel_rfl) (fun _ _ _ h => h) (Or.inl ⟨by rfl, ?_⟩) (by assumption) ?_
  rotate_left
  · (intro w hSw; (try dsimp only at hSw); first | (go_simp; done) | (go_simp; with_reducible rfl))
  simp only [Act.put, List.getElem_toArray, List.getElem_cons_zero, List.getElem_cons_succ, List.setIfInBounds_toArray, List.set_cons_zero, List.set_cons_succ]
  refine wpAnyH_take (i := 7) (v := ?_) rfl (by kernel_rfl) (by kernel_rfl) (by kernel_rfl) (fun _ _ _ h => h) (Or.inl ⟨by rfl, ?_⟩) (by assumption) ?_
  rotate_left
  · (intro w hSw; (try dsimp only at hSw); first | (go_simp; done) | (go_simp; with_reducible rfl))
  simp only [Act.put, List.getElem_toArray, List.getElem_cons_zero, List.getElem_cons_succ, List.setIfInBounds_toArray, List.set_cons_zero, List.set_cons_succ]
  refine wpAnyH_take (i := 8) (v := ?_) rfl (by kernel_rfl) (by kernel_rfl) (by kernel_rfl) (fun _ _ _ h => h) (Or.inl ⟨by rfl, ?_⟩) (by assumption) ?_
  rotate_left
  · (intro w hSw; (try dsimp only at hSw); first | (go_simp; done) | (go_simp; with_reducible rfl))
  simp only [Act.put, List.getElem_toArray, List.getElem_cons_zero, List.getElem_cons_succ, List.setIfInBounds_toArray, List.set_cons_zero, List.set_cons_succ]
  refine wpAnyH_take (i := 9) (v := ?_) rfl (by kernel_rfl) (by kernel_rfl) (by kernel_rfl) (fun _ _ _ h => h) (Or.inl ⟨by rfl, ?_⟩) (by assumption) ?_
  rotate_left
  · (intro w hSw; (try dsimp only at hSw); first | (go_simp; done) | (go_simp; with_reducible rfl))
  simp only [Act.put, List.getElem_toArray, List.getElem_cons_zero, List.getElem_cons_succ, List.setIfInBounds_toArray, List.set_cons_zero, List.set_cons_succ]
  refine wpAnyH_take (i := 10) (v := ?_) rfl (by kernel_rfl) (by kernel_rfl) (by kernel_rfl) (fun _ _ _ h => h) (Or.inl ⟨by rfl, ?_⟩) (by assumption) ?_
  rotate_left
  · (intro w hSw; (try dsimp only at hSw); first | (go_simp; done) | (go_simp; with_reducible rfl))
  simp only [Act.put, List.getElem_toArray, List.getElem_cons_zero, List.getElem_cons_succ, List.setIfInBounds_toArray, List.set_cons_zero, List.set_cons_succ]
  refine wpAnyH_ready (rs := [11]) (by kernel_rfl) (by simp) ?_
  refine AllReadyH.cons rfl (fun K hK => ?_) AllReadyH.nil
  go_simp
  go_wp2_with (go_at_call 28; refine PL.out.mono ?_; rintro e w3 ⟨rfl, hb⟩)
  have B3 := Lib.hid hb
  refine hK.out _ _ (KS.out _ hb) (fun hH1 => ?_)
  clear hK K hHeld hb
  refine wpAnyH_take (i := 12) (v := (.bool (!false))) rfl (by kernel_rfl) (by kernel_rfl) (by kernel_rfl) (fun _ _ _ h => h) (Or.inl ⟨by rfl, by (intro w hSw; (try dsimp only at hSw); exact run_bin rfl rfl rfl guard_cmd (hne w))⟩) (by assumption) ?_
  simp only [Act.put, List.getElem_toArray, List.getElem_cons_zero, List.getElem_cons_succ, List.setIfInBounds_toArray, List.set_cons_zero, List.set_cons_succ]
  refine wpAnyH_take (i := 13) (v := ?_) rfl (by kernel_rfl) (by kernel_rfl) (by kernel_rfl) (fun _ _ _ h => h) (Or.inl ⟨by rfl, ?_⟩) (by assumption) ?_
  rotate_left
  · (intro w hSw; (try dsimp only at hSw); first | (go_simp; done) | (go_simp; with_reducible rfl))
  simp only [Act.put, List.getElem_toArray, List.getElem_cons_zero, List.getElem_cons_succ, List.setIfInBounds_toArray, List.set_cons_zero, List.set_cons_succ]
  refine wpAnyH_done (by kernel_rfl) ?_ _
  clear hH1 hne
  go_wp2_with fail
  go_ret
  exact ⟨rfl, up MD.out B3.out MD.out.size⟩
set_option maxRecDepth 100000 in
set_option maxHeartbeats 8000000 in
theorem right_o0 (x : Cm) (w : World) (hT : Tab w) (hx : x.Ok) (h1 : 0 ≤ x.s) (h2 : x.s ≤ 1048576) (hq : eqb x (plainM x) = true) (hl : x.l.size = 0) (hk : ¬ (1 ≤ x.k ∧ x.k ≤ 27)) : Calls Tryd.prog 12 #[.agg #[.int .i64 x.s, .int .i64 x.w, .int .i64 x.k, .int .i64 x.a, .int .i64 x.b, .int .i64 x.c, .int .i64 x.d, .string x.t, .string x.l]] w (BoolP false w) := by
  have k1 : decide (x.s < 0) = false := decide_eq_false (by omega)
  have k2 : decide (x.s > 1048576) = false := decide_eq_false (by omega)
  have hne := fun w => run_neq hx (plain_ok hx) w
  rw [hq] at hne
  have T1 := Lib.hid (hT.keep (made w (.cells #[.int .i64 x.s, .int .i64 x.w, .int .i64 x.k, .int .i64 x.a, .int .i64 x.b, .int .i64 x.c, .int .i64 x.d, .string x.t, .string x.l] 25)))
  have he : x.l.toList.isEmpty = true := by rw [toList_empty]; exact decide_eq_true hl
  have M1 := Lib.hid (made w (.cells #[.int .i64 x.s, .int .i64 x.w, .int .i64 x.k, .int .i64 x.a, .int .i64 x.b, .int .i64 x.c, .int .i64 x.d, .string x.t, .string x.l] 25))
  have bx := Blk.new w 25 #[.int .i64 x.s, .int .i64 x.w, .int .i64 x.k, .int .i64 x.a, .int .i64 x.b, .int .i64 x.c, .int .i64 x.d, .string x.t, .string x.l]
  have BX := Lib.hid bx
  have b0 := bx.cell 0
  have b1 := bx.cell 1
  have b2 := bx.cell 2
  have b3 := bx.cell 3
  have b4 := bx.cell 4
  have b5 := bx.cell 5
  have b6 := bx.cell 6
  have b7 := bx.cell 7
  have b8 := bx.cell 8
  clear bx
  generalize hw1 : w.alloc (.cells #[.int .i64 x.s, .int .i64 x.w, .int .i64 x.k, .int .i64 x.a, .int .i64 x.b, .int .i64 x.c, .int .i64 x.d, .string x.t, .string x.l] 25) = w1 at *
  have PL := Lib.hid (plain_any x w1.drew (T1.out.keep (Below.refl _ _).drew))
  clear h1 h2 hT hx
  unfold PlainP at PL
  generalize plainM x = p at *
  go_enter Tryd.func12, Tryd.ntmps12
  go_upto_region 1 with (rw [hw1])
  refine wp_region_held_drew (S := fun ws => ws.cell? ⟨w.heap.size, 0, none⟩ = some (.int .i64 x.s) ∧ ws.cell? ⟨w.heap.size, 1, none⟩ = some (.int .i64 x.w) ∧ ws.cell? ⟨w.heap.size, 2, none⟩ = some (.int .i64 x.k) ∧ ws.cell? ⟨w.heap.size, 3, none⟩ = some (.int .i64 x.a) ∧ ws.cell? ⟨w.heap.size, 4, none⟩ = some (.int .i64 x.b) ∧ ws.cell? ⟨w.heap.size, 5, none⟩ = some (.int .i64 x.c) ∧ ws.cell? ⟨w.heap.size, 6, none⟩ = some (.int .i64 x.d) ∧ ws.cell? ⟨w.heap.size, 7, none⟩ = some (.string x.t) ∧ ws.cell? ⟨w.heap.size, 8, none⟩ = some (.string x.l)) (by kernel_rfl) ⟨b0, b1, b2, b3, b4, b5, b6, b7, b8⟩ (fun hHeld => ?_)
  have BXD := Lib.hid (show Blk w1.drew w.heap.size 25 #[.int .i64 x.s, .int .i64 x.w, .int .i64 x.k, .int .i64 x.a, .int .i64 x.b, .int .i64 x.c, .int .i64 x.d, .string x.t, .string x.l] from BX.out.drewN 1)
  have MD := Lib.hid (show Below w.heap.size w w1.drew from base.below_drewN M1.out 1)
  generalize w1.drew = w2 at *
  have KS := Lib.hid (fun ws (h : Below w2.heap.size w2 ws) => (show ws.cell? ⟨w.heap.size, 0, none⟩ = some (.int .i64 x.s) ∧ ws.cell? ⟨w.heap.size, 1, none⟩ = some (.int .i64 x.w) ∧ ws.cell? ⟨w.heap.size, 2, none⟩ = some (.int .i64 x.k) ∧ ws.cell? ⟨w.heap.size, 3, none⟩ = some (.int .i64 x.a) ∧ ws.cell? ⟨w.heap.size, 4, none⟩ = some (.int .i64 x.b) ∧ ws.cell? ⟨w.heap.size, 5, none⟩ = some (.int .i64 x.c) ∧ ws.cell? ⟨w.heap.size, 6, none⟩ = some (.int .i64 x.d) ∧ ws.cell? ⟨w.heap.size, 7, none⟩ = some (.string x.t) ∧ ws.cell? ⟨w.heap.size, 8, none⟩ = some (.string x.l) from ⟨(BXD.out.below h BXD.out.lt).cell 0, (BXD.out.below h BXD.out.lt).cell 1, (BXD.out.below h BXD.out.lt).cell 2, (BXD.out.below h BXD.out.lt).cell 3, (BXD.out.below h BXD.out.lt).cell 4, (BXD.out.below h BXD.out.lt).cell 5, (BXD.out.below h BXD.out.lt).cell 6, (BXD.out.below h BXD.out.lt).cell 7, (BXD.out.below h BXD.out.lt).cell 8⟩))
  refine wpAnyH_take (i := 0) (v := ?_) rfl (by kernel_rfl) (by kernel_rfl) (by kernel_rfl) (fun _ _ _ h => h) (Or.inl ⟨by rfl, ?_⟩) (by assumption) ?_
  rotate_left
  · (intro w hSw; (try dsimp only at hSw); first | (go_simp; done) | (go_simp; with_reducible rfl))
  simp only [Act.put, List.getElem_toArray, List.getElem_cons_zero, List.getElem_cons_succ, List.setIfInBounds_toArray, List.set_cons_zero, List.set_cons_succ]
  refine wpAnyH_take (i := 1) (v := ?_) rfl (by kernel_rfl) (by kernel_rfl) (by kernel_rfl) (fun _ _ _ h => h) (Or.inl ⟨by rfl, ?_⟩) (by assumption) ?_
  rotate_left
  · (intro w hSw; (try dsimp only at hSw); first | (go_simp; done) | (go_simp; with_reducible rfl))
  simp only [Act.put, List.getElem_toArray, List.getElem_cons_zero, List.getElem_cons_succ, List.setIfInBounds_toArray, List.set_cons_zero, List.set_cons_succ]
  refine wpAnyH_take (i := 2) (v := ?_) rfl (by kernel_rfl) (by kernel_rfl) (by kernel_rfl) (fun _ _ _ h => h) (Or.inl ⟨by rfl, ?_⟩) (by assumption) ?_
  rotate_left
  · (intro w hSw; (try dsimp only at hSw); first | (go_simp; done) | (go_simp; with_reducible rfl))
  simp only [Act.put, List.getElem_toArray, List.getElem_cons_zero, List.getElem_cons_succ, List.setIfInBounds_toArray, List.set_cons_zero, List.set_cons_succ]
  refine wpAnyH_take (i := 3) (v := ?_) rfl (by kernel_rfl) (by kernel_rfl) (by kernel_rfl) (fun _ _ _ h => h) (Or.inl ⟨by rfl, ?_⟩) (by assumption) ?_
  rotate_left
  · (intro w hSw; (try dsimp only at hSw); first | (go_simp; done) | (go_simp; with_reducible rfl))
  simp only [Act.put, List.getElem_toArray, List.getElem_cons_zero, List.getElem_cons_succ, List.setIfInBounds_toArray, List.set_cons_zero, List.set_cons_succ]
  refine wpAnyH_take (i := 4) (v := ?_) rfl (by kernel_rfl) (by kernel_rfl) (by kernel_rfl) (fun _ _ _ h => h) (Or.inl ⟨by rfl, ?_⟩) (by assumption) ?_
  rotate_left
  · (intro w hSw; (try dsimp only at hSw); first | (go_simp; done) | (go_simp; with_reducible rfl))
  simp only [Act.put, List.getElem_toArray, List.getElem_cons_zero, List.getElem_cons_succ, List.setIfInBounds_toArray, List.set_cons_zero, List.set_cons_succ]
  refine wpAnyH_take (i := 5) (v := ?_) rfl (by kernel_rfl) (by kernel_rfl) (by kernel_rfl) (fun _ _ _ h => h) (Or.inl ⟨by rfl, ?_⟩) (by assumption) ?_
  rotate_left
  · (intro w hSw; (try dsimp only at hSw); first | (go_simp; done) | (go_simp; with_reducible rfl))
  simp only [Act.put, List.getElem_toArray, List.getElem_cons_zero, List.getElem_cons_succ, List.setIfInBounds_toArray, List.set_cons_zero, List.set_cons_succ]
  refine wpAnyH_take (i := 6) (v := ?_) rfl (by kernel_rfl) (by kernel_rfl) (by kernel_rfl) (fun _ _ _ h => h) (Or.inl ⟨by rfl, ?_⟩) (by assumption) ?_
  rotate_left
  · (intro w hSw; (try dsimp only at hSw); first | (go_simp; done) | (go_simp; with_reducible rfl))
  simp only [Act.put, List.getElem_toArray, List.getElem_cons_zero, List.getElem_cons_succ, List.setIfInBounds_toArray, List.set_cons_zero, List.set_cons_succ]
  refine wpAnyH_take (i := 7) (v := ?_) rfl (by kernel_rfl) (by kernel_rfl) (by kernel_rfl) (fun _ _ _ h => h) (Or.inl ⟨by rfl, ?_⟩) (by assumption) ?_
  rotate_left
  · (intro w hSw; (try dsimp only at hSw); first | (go_simp; done) | (go_simp; with_reducible rfl))
  simp only [Act.put, List.getElem_toArray, List.getElem_cons_zero, List.getElem_cons_succ, List.setIfInBounds_toArray, List.set_cons_zero, List.set_cons_succ]
  refine wpAnyH_take (i := 8) (v := ?_) rfl (by kernel_rfl) (by kernel_rfl) (by kernel_rfl) (fun _ _ _ h => h) (Or.inl ⟨by rfl, ?_⟩) (by assumption) ?_
  rotate_left
  · (intro w hSw; (try dsimp only at hSw); first | (go_simp; done) | (go_simp; with_reducible rfl))
  simp only [Act.put, List.getElem_toArray, List.getElem_cons_zero, List.getElem_cons_succ, List.setIfInBounds_toArray, List.set_cons_zero, List.set_cons_succ]
  refine wpAnyH_take (i := 9) (v := ?_) rfl (by kernel_rfl) (by kernel_rfl) (by kernel_rfl) (fun _ _ _ h => h) (Or.inl ⟨by rfl, ?_⟩) (by assumption) ?_
  rotate_left
  · (intro w hSw; (try dsimp only at hSw); first | (go_simp; done) | (go_simp; with_reducible rfl))
  simp only [Act.put, List.getElem_toArray, List.getElem_cons_zero, List.getElem_cons_succ, List.setIfInBounds_toArray, List.set_cons_zero, List.set_cons_succ]
  refine wpAnyH_take (i := 10) (v := ?_) rfl (by kernel_rfl) (by kernel_rfl) (by kernel_rfl) (fun _ _ _ h => h) (Or.inl ⟨by rfl, ?_⟩) (by assumption) ?_
  rotate_left
  · (intro w hSw; (try dsimp only at hSw); first | (go_simp; done) | (go_simp; with_reducible rfl))
  simp only [Act.put, List.getElem_toArray, List.getElem_cons_zero, List.getElem_cons_succ, List.setIfInBounds_toArray, List.set_cons_zero, List.set_cons_succ]
  refine wpAnyH_ready (rs := [11]) (by kernel_rfl) (by simp) ?_
  refine AllReadyH.cons rfl (fun K hK => ?_) AllReadyH.nil
  go_simp
  go_wp2_with (go_at_call 28; refine PL.out.mono ?_; rintro e w3 ⟨rfl, hb⟩)
  have B3 := Lib.hid hb
  refine hK.out _ _ (KS.out _ hb) (fun hH1 => ?_)
  clear hK K hHeld hb
  refine wpAnyH_take (i := 12) (v := (.bool (!true))) rfl (by kernel_rfl) (by kernel_rfl) (by kernel_rfl) (fun _ _ _ h => h) (Or.inl ⟨by rfl, by (intro w hSw; (try dsimp only at hSw); exact run_bin rfl rfl rfl guard_cmd (hne w))⟩) (by assumption) ?_
  simp only [Act.put, List.getElem_toArray, List.getElem_cons_zero, List.getElem_cons_succ, List.setIfInBounds_toArray, List.set_cons_zero, List.set_cons_succ]
  refine wpAnyH_take (i := 13) (v := ?_) rfl (by kernel_rfl) (by kernel_rfl) (by kernel_rfl) (fun _ _ _ h => h) (Or.inl ⟨by rfl, ?_⟩) (by assumption) ?_
  rotate_left
  · (intro w hSw; (try dsimp only at hSw); first | (go_simp; done) | (go_simp; with_reducible rfl))
  simp only [Act.put, List.getElem_toArray, List.getElem_cons_zero, List.getElem_cons_succ, List.setIfInBounds_toArray, List.set_cons_zero, List.set_cons_succ]
  refine wpAnyH_done (by kernel_rfl) ?_ _
  clear hH1 hne
  have K3 := BXD.out.below B3.out BXD.out.lt
  have q0 := K3.cell 0
  have q2 := K3.cell 2
  have q7 := K3.cell 7
  have q8 := K3.cell 8
  clear K3 b0 b1 b2 b3 b4 b5 b6 b7 b8
  go_wp2_with fail
  refine (isKind_any x.k w3).mono ?_
  rintro e w4 ⟨rfl, e4⟩
  subst e4
  rw [decide_eq_false hk]
  clear hk hl
  go_wp2_with fail
  go_ret
  exact ⟨rfl, up MD.out B3.out MD.out.size⟩
set_option maxRecDepth 100000 in
set_option maxHeartbeats 8000000 in
theorem right_o1 (x : Cm) (w : World) (hT : Tab w) (hx : x.Ok) (h1 : 0 ≤ x.s) (h2 : x.s ≤ 1048576) (hq : eqb x (plainM x) = true) (hl : x.l.size = 0) (hk : 1 ≤ x.k ∧ x.k ≤ 27) (ht : x.t.size ≤ 16) : Calls Tryd.prog 12 #[.agg #[.int .i64 x.s, .int .i64 x.w, .int .i64 x.k, .int .i64 x.a, .int .i64 x.b, .int .i64 x.c, .int .i64 x.d, .string x.t, .string x.l]] w (BoolP true w) := by
  have k1 : decide (x.s < 0) = false := decide_eq_false (by omega)
  have k2 : decide (x.s > 1048576) = false := decide_eq_false (by omega)
  have hne := fun w => run_neq hx (plain_ok hx) w
  rw [hq] at hne
  have T1 := Lib.hid (hT.keep (made w (.cells #[.int .i64 x.s, .int .i64 x.w, .int .i64 x.k, .int .i64 x.a, .int .i64 x.b, .int .i64 x.c, .int .i64 x.d, .string x.t, .string x.l] 25)))
  have he : x.l.toList.isEmpty = true := by rw [toList_empty]; exact decide_eq_true hl
  have M1 := Lib.hid (made w (.cells #[.int .i64 x.s, .int .i64 x.w, .int .i64 x.k, .int .i64 x.a, .int .i64 x.b, .int .i64 x.c, .int .i64 x.d, .string x.t, .string x.l] 25))
  have bx := Blk.new w 25 #[.int .i64 x.s, .int .i64 x.w, .int .i64 x.k, .int .i64 x.a, .int .i64 x.b, .int .i64 x.c, .int .i64 x.d, .string x.t, .string x.l]
  have BX := Lib.hid bx
  have b0 := bx.cell 0
  have b1 := bx.cell 1
  have b2 := bx.cell 2
  have b3 := bx.cell 3
  have b4 := bx.cell 4
  have b5 := bx.cell 5
  have b6 := bx.cell 6
  have b7 := bx.cell 7
  have b8 := bx.cell 8
  clear bx
  generalize hw1 : w.alloc (.cells #[.int .i64 x.s, .int .i64 x.w, .int .i64 x.k, .int .i64 x.a, .int .i64 x.b, .int .i64 x.c, .int .i64 x.d, .string x.t, .string x.l] 25) = w1 at *
  have PL := Lib.hid (plain_any x w1.drew (T1.out.keep (Below.refl _ _).drew))
  clear h1 h2 hT hx
  unfold PlainP at PL
  generalize plainM x = p at *
  go_enter Tryd.func12, Tryd.ntmps12
  go_upto_region 1 with (rw [hw1])
  refine wp_region_held_drew (S := fun ws => ws.cell? ⟨w.heap.size, 0, none⟩ = some (.int .i64 x.s) ∧ ws.cell? ⟨w.heap.size, 1, none⟩ = some (.int .i64 x.w) ∧ ws.cell? ⟨w.heap.size, 2, none⟩ = some (.int .i64 x.k) ∧ ws.cell? ⟨w.heap.size, 3, none⟩ = some (.int .i64 x.a) ∧ ws.cell? ⟨w.heap.size, 4, none⟩ = some (.int .i64 x.b) ∧ ws.cell? ⟨w.heap.size, 5, none⟩ = some (.int .i64 x.c) ∧ ws.cell? ⟨w.heap.size, 6, none⟩ = some (.int .i64 x.d) ∧ ws.cell? ⟨w.heap.size, 7, none⟩ = some (.string x.t) ∧ ws.cell? ⟨w.heap.size, 8, none⟩ = some (.string x.l)) (by kernel_rfl) ⟨b0, b1, b2, b3, b4, b5, b6, b7, b8⟩ (fun hHeld => ?_)
  have BXD := Lib.hid (show Blk w1.drew w.heap.size 25 #[.int .i64 x.s, .int .i64 x.w, .int .i64 x.k, .int .i64 x.a, .int .i64 x.b, .int .i64 x.c, .int .i64 x.d, .string x.t, .string x.l] from BX.out.drewN 1)
  have MD := Lib.hid (show Below w.heap.size w w1.drew from base.below_drewN M1.out 1)
  generalize w1.drew = w2 at *
  have KS := Lib.hid (fun ws (h : Below w2.heap.size w2 ws) => (show ws.cell? ⟨w.heap.size, 0, none⟩ = some (.int .i64 x.s) ∧ ws.cell? ⟨w.heap.size, 1, none⟩ = some (.int .i64 x.w) ∧ ws.cell? ⟨w.heap.size, 2, none⟩ = some (.int .i64 x.k) ∧ ws.cell? ⟨w.heap.size, 3, none⟩ = some (.int .i64 x.a) ∧ ws.cell? ⟨w.heap.size, 4, none⟩ = some (.int .i64 x.b) ∧ ws.cell? ⟨w.heap.size, 5, none⟩ = some (.int .i64 x.c) ∧ ws.cell? ⟨w.heap.size, 6, none⟩ = some (.int .i64 x.d) ∧ ws.cell? ⟨w.heap.size, 7, none⟩ = some (.string x.t) ∧ ws.cell? ⟨w.heap.size, 8, none⟩ = some (.string x.l) from ⟨(BXD.out.below h BXD.out.lt).cell 0, (BXD.out.below h BXD.out.lt).cell 1, (BXD.out.below h BXD.out.lt).cell 2, (BXD.out.below h BXD.out.lt).cell 3, (BXD.out.below h BXD.out.lt).cell 4, (BXD.out.below h BXD.out.lt).cell 5, (BXD.out.below h BXD.out.lt).cell 6, (BXD.out.below h BXD.out.lt).cell 7, (BXD.out.below h BXD.out.lt).cell 8⟩))
  refine wpAnyH_take (i := 0) (v := ?_) rfl (by kernel_rfl) (by kernel_rfl) (by kernel_rfl) (fun _ _ _ h => h) (Or.inl ⟨by rfl, ?_⟩) (by assumption) ?_
  rotate_left
  · (intro w hSw; (try dsimp only at hSw); first | (go_simp; done) | (go_simp; with_reducible rfl))
  simp only [Act.put, List.getElem_toArray, List.getElem_cons_zero, List.getElem_cons_succ, List.setIfInBounds_toArray, List.set_cons_zero, List.set_cons_succ]
  refine wpAnyH_take (i := 1) (v := ?_) rfl (by kernel_rfl) (by kernel_rfl) (by kernel_rfl) (fun _ _ _ h => h) (Or.inl ⟨by rfl, ?_⟩) (by assumption) ?_
  rotate_left
  · (intro w hSw; (try dsimp only at hSw); first | (go_simp; done) | (go_simp; with_reducible rfl))
  simp only [Act.put, List.getElem_toArray, List.getElem_cons_zero, List.getElem_cons_succ, List.setIfInBounds_toArray, List.set_cons_zero, List.set_cons_succ]
  refine wpAnyH_take (i := 2) (v := ?_) rfl (by kernel_rfl) (by kernel_rfl) (by kernel_rfl) (fun _ _ _ h => h) (Or.inl ⟨by rfl, ?_⟩) (by assumption) ?_
  rotate_left
  · (intro w hSw; (try dsimp only at hSw); first | (go_simp; done) | (go_simp; with_reducible rfl))
  simp only [Act.put, List.getElem_toArray, List.getElem_cons_zero, List.getElem_cons_succ, List.setIfInBounds_toArray, List.set_cons_zero, List.set_cons_succ]
  refine wpAnyH_take (i := 3) (v := ?_) rfl (by kernel_rfl) (by kernel_rfl) (by kernel_rfl) (fun _ _ _ h => h) (Or.inl ⟨by rfl, ?_⟩) (by assumption) ?_
  rotate_left
  · (intro w hSw; (try dsimp only at hSw); first | (go_simp; done) | (go_simp; with_reducible rfl))
  simp only [Act.put, List.getElem_toArray, List.getElem_cons_zero, List.getElem_cons_succ, List.setIfInBounds_toArray, List.set_cons_zero, List.set_cons_succ]
  refine wpAnyH_take (i := 4) (v := ?_) rfl (by kernel_rfl) (by kernel_rfl) (by kernel_rfl) (fun _ _ _ h => h) (Or.inl ⟨by rfl, ?_⟩) (by assumption) ?_
  rotate_left
  · (intro w hSw; (try dsimp only at hSw); first | (go_simp; done) | (go_simp; with_reducible rfl))
  simp only [Act.put, List.getElem_toArray, List.getElem_cons_zero, List.getElem_cons_succ, List.setIfInBounds_toArray, List.set_cons_zero, List.set_cons_succ]
  refine wpAnyH_take (i := 5) (v := ?_) rfl (by kernel_rfl) (by kernel_rfl) (by kernel_rfl) (fun _ _ _ h => h) (Or.inl ⟨by rfl, ?_⟩) (by assumption) ?_
  rotate_left
  · (intro w hSw; (try dsimp only at hSw); first | (go_simp; done) | (go_simp; with_reducible rfl))
  simp only [Act.put, List.getElem_toArray, List.getElem_cons_zero, List.getElem_cons_succ, List.setIfInBounds_toArray, List.set_cons_zero, List.set_cons_succ]
  refine wpAnyH_take (i := 6) (v := ?_) rfl (by kernel_rfl) (by kernel_rfl) (by kernel_rfl) (fun _ _ _ h => h) (Or.inl ⟨by rfl, ?_⟩) (by assumption) ?_
  rotate_left
  · (intro w hSw; (try dsimp only at hSw); first | (go_simp; done) | (go_simp; with_reducible rfl))
  simp only [Act.put, List.getElem_toArray, List.getElem_cons_zero, List.getElem_cons_succ, List.setIfInBounds_toArray, List.set_cons_zero, List.set_cons_succ]
  refine wpAnyH_take (i := 7) (v := ?_) rfl (by kernel_rfl) (by kernel_rfl) (by kernel_rfl) (fun _ _ _ h => h) (Or.inl ⟨by rfl, ?_⟩) (by assumption) ?_
  rotate_left
  · (intro w hSw; (try dsimp only at hSw); first | (go_simp; done) | (go_simp; with_reducible rfl))
  simp only [Act.put, List.getElem_toArray, List.getElem_cons_zero, List.getElem_cons_succ, List.setIfInBounds_toArray, List.set_cons_zero, List.set_cons_succ]
  refine wpAnyH_take (i := 8) (v := ?_) rfl (by kernel_rfl) (by kernel_rfl) (by kernel_rfl) (fun _ _ _ h => h) (Or.inl ⟨by rfl, ?_⟩) (by assumption) ?_
  rotate_left
  · (intro w hSw; (try dsimp only at hSw); first | (go_simp; done) | (go_simp; with_reducible rfl))
  simp only [Act.put, List.getElem_toArray, List.getElem_cons_zero, List.getElem_cons_succ, List.setIfInBounds_toArray, List.set_cons_zero, List.set_cons_succ]
  refine wpAnyH_take (i := 9) (v := ?_) rfl (by kernel_rfl) (by kernel_rfl) (by kernel_rfl) (fun _ _ _ h => h) (Or.inl ⟨by rfl, ?_⟩) (by assumption) ?_
  rotate_left
  · (intro w hSw; (try dsimp only at hSw); first | (go_simp; done) | (go_simp; with_reducible rfl))
  simp only [Act.put, List.getElem_toArray, List.getElem_cons_zero, List.getElem_cons_succ, List.setIfInBounds_toArray, List.set_cons_zero, List.set_cons_succ]
  refine wpAnyH_take (i := 10) (v := ?_) rfl (by kernel_rfl) (by kernel_rfl) (by kernel_rfl) (fun _ _ _ h => h) (Or.inl ⟨by rfl, ?_⟩) (by assumption) ?_
  rotate_left
  · (intro w hSw; (try dsimp only at hSw); first | (go_simp; done) | (go_simp; with_reducible rfl))
  simp only [Act.put, List.getElem_toArray, List.getElem_cons_zero, List.getElem_cons_succ, List.setIfInBounds_toArray, List.set_cons_zero, List.set_cons_succ]
  refine wpAnyH_ready (rs := [11]) (by kernel_rfl) (by simp) ?_
  refine AllReadyH.cons rfl (fun K hK => ?_) AllReadyH.nil
  go_simp
  go_wp2_with (go_at_call 28; refine PL.out.mono ?_; rintro e w3 ⟨rfl, hb⟩)
  have B3 := Lib.hid hb
  refine hK.out _ _ (KS.out _ hb) (fun hH1 => ?_)
  clear hK K hHeld hb
  refine wpAnyH_take (i := 12) (v := (.bool (!true))) rfl (by kernel_rfl) (by kernel_rfl) (by kernel_rfl) (fun _ _ _ h => h) (Or.inl ⟨by rfl, by (intro w hSw; (try dsimp only at hSw); exact run_bin rfl rfl rfl guard_cmd (hne w))⟩) (by assumption) ?_
  simp only [Act.put, List.getElem_toArray, List.getElem_cons_zero, List.getElem_cons_succ, List.setIfInBounds_toArray, List.set_cons_zero, List.set_cons_succ]
  refine wpAnyH_take (i := 13) (v := ?_) rfl (by kernel_rfl) (by kernel_rfl) (by kernel_rfl) (fun _ _ _ h => h) (Or.inl ⟨by rfl, ?_⟩) (by assumption) ?_
  rotate_left
  · (intro w hSw; (try dsimp only at hSw); first | (go_simp; done) | (go_simp; with_reducible rfl))
  simp only [Act.put, List.getElem_toArray, List.getElem_cons_zero, List.getElem_cons_succ, List.setIfInBounds_toArray, List.set_cons_zero, List.set_cons_succ]
  refine wpAnyH_done (by kernel_rfl) ?_ _
  clear hH1 hne
  have K3 := BXD.out.below B3.out BXD.out.lt
  have q0 := K3.cell 0
  have q2 := K3.cell 2
  have q7 := K3.cell 7
  have q8 := K3.cell 8
  clear K3 b0 b1 b2 b3 b4 b5 b6 b7 b8
  go_wp2_with fail
  refine (isKind_any x.k w3).mono ?_
  rintro e w4 ⟨rfl, e4⟩
  subst e4
  rw [decide_eq_true hk]
  have t1 : decide ((x.t.size : Int) ≤ 16) = true := decide_eq_true (by omega)
  clear hk hl ht
  go_wp2_with fail
  go_ret
  exact ⟨rfl, up MD.out B3.out MD.out.size⟩
set_option maxRecDepth 100000 in
set_option maxHeartbeats 8000000 in
theorem right_o2 (x : Cm) (w : World) (hT : Tab w) (hx : x.Ok) (h1 : 0 ≤ x.s) (h2 : x.s ≤ 1048576) (hq : eqb x (plainM x) = true) (hl : x.l.size = 0) (hk : 1 ≤ x.k ∧ x.k ≤ 27) (ht : ¬ x.t.size ≤ 16) : Calls Tryd.prog 12 #[.agg #[.int .i64 x.s, .int .i64 x.w, .int .i64 x.k, .int .i64 x.a, .int .i64 x.b, .int .i64 x.c, .int .i64 x.d, .string x.t, .string x.l]] w (BoolP false w) := by
  have k1 : decide (x.s < 0) = false := decide_eq_false (by omega)
  have k2 : decide (x.s > 1048576) = false := decide_eq_false (by omega)
  have hne := fun w => run_neq hx (plain_ok hx) w
  rw [hq] at hne
  have T1 := Lib.hid (hT.keep (made w (.cells #[.int .i64 x.s, .int .i64 x.w, .int .i64 x.k, .int .i64 x.a, .int .i64 x.b, .int .i64 x.c, .int .i64 x.d, .string x.t, .string x.l] 25)))
  have he : x.l.toList.isEmpty = true := by rw [toList_empty]; exact decide_eq_true hl
  have M1 := Lib.hid (made w (.cells #[.int .i64 x.s, .int .i64 x.w, .int .i64 x.k, .int .i64 x.a, .int .i64 x.b, .int .i64 x.c, .int .i64 x.d, .string x.t, .string x.l] 25))
  have bx := Blk.new w 25 #[.int .i64 x.s, .int .i64 x.w, .int .i64 x.k, .int .i64 x.a, .int .i64 x.b, .int .i64 x.c, .int .i64 x.d, .string x.t, .string x.l]
  have BX := Lib.hid bx
  have b0 := bx.cell 0
  have b1 := bx.cell 1
  have b2 := bx.cell 2
  have b3 := bx.cell 3
  have b4 := bx.cell 4
  have b5 := bx.cell 5
  have b6 := bx.cell 6
  have b7 := bx.cell 7
  have b8 := bx.cell 8
  clear bx
  generalize hw1 : w.alloc (.cells #[.int .i64 x.s, .int .i64 x.w, .int .i64 x.k, .int .i64 x.a, .int .i64 x.b, .int .i64 x.c, .int .i64 x.d, .string x.t, .string x.l] 25) = w1 at *
  have PL := Lib.hid (plain_any x w1.drew (T1.out.keep (Below.refl _ _).drew))
  clear h1 h2 hT hx
  unfold PlainP at PL
  generalize plainM x = p at *
  go_enter Tryd.func12, Tryd.ntmps12
  go_upto_region 1 with (rw [hw1])
  refine wp_region_held_drew (S := fun ws => ws.cell? ⟨w.heap.size, 0, none⟩ = some (.int .i64 x.s) ∧ ws.cell? ⟨w.heap.size, 1, none⟩ = some (.int .i64 x.w) ∧ ws.cell? ⟨w.heap.size, 2, none⟩ = some (.int .i64 x.k) ∧ ws.cell? ⟨w.heap.size, 3, none⟩ = some (.int .i64 x.a) ∧ ws.cell? ⟨w.heap.size, 4, none⟩ = some (.int .i64 x.b) ∧ ws.cell? ⟨w.heap.size, 5, none⟩ = some (.int .i64 x.c) ∧ ws.cell? ⟨w.heap.size, 6, none⟩ = some (.int .i64 x.d) ∧ ws.cell? ⟨w.heap.size, 7, none⟩ = some (.string x.t) ∧ ws.cell? ⟨w.heap.size, 8, none⟩ = some (.string x.l)) (by kernel_rfl) ⟨b0, b1, b2, b3, b4, b5, b6, b7, b8⟩ (fun hHeld => ?_)
  have BXD := Lib.hid (show Blk w1.drew w.heap.size 25 #[.int .i64 x.s, .int .i64 x.w, .int .i64 x.k, .int .i64 x.a, .int .i64 x.b, .int .i64 x.c, .int .i64 x.d, .string x.t, .string x.l] from BX.out.drewN 1)
  have MD := Lib.hid (show Below w.heap.size w w1.drew from base.below_drewN M1.out 1)
  generalize w1.drew = w2 at *
  have KS := Lib.hid (fun ws (h : Below w2.heap.size w2 ws) => (show ws.cell? ⟨w.heap.size, 0, none⟩ = some (.int .i64 x.s) ∧ ws.cell? ⟨w.heap.size, 1, none⟩ = some (.int .i64 x.w) ∧ ws.cell? ⟨w.heap.size, 2, none⟩ = some (.int .i64 x.k) ∧ ws.cell? ⟨w.heap.size, 3, none⟩ = some (.int .i64 x.a) ∧ ws.cell? ⟨w.heap.size, 4, none⟩ = some (.int .i64 x.b) ∧ ws.cell? ⟨w.heap.size, 5, none⟩ = some (.int .i64 x.c) ∧ ws.cell? ⟨w.heap.size, 6, none⟩ = some (.int .i64 x.d) ∧ ws.cell? ⟨w.heap.size, 7, none⟩ = some (.string x.t) ∧ ws.cell? ⟨w.heap.size, 8, none⟩ = some (.string x.l) from ⟨(BXD.out.below h BXD.out.lt).cell 0, (BXD.out.below h BXD.out.lt).cell 1, (BXD.out.below h BXD.out.lt).cell 2, (BXD.out.below h BXD.out.lt).cell 3, (BXD.out.below h BXD.out.lt).cell 4, (BXD.out.below h BXD.out.lt).cell 5, (BXD.out.below h BXD.out.lt).cell 6, (BXD.out.below h BXD.out.lt).cell 7, (BXD.out.below h BXD.out.lt).cell 8⟩))
  refine wpAnyH_take (i := 0) (v := ?_) rfl (by kernel_rfl) (by kernel_rfl) (by kernel_rfl) (fun _ _ _ h => h) (Or.inl ⟨by rfl, ?_⟩) (by assumption) ?_
  rotate_left
  · (intro w hSw; (try dsimp only at hSw); first | (go_simp; done) | (go_simp; with_reducible rfl))
  simp only [Act.put, List.getElem_toArray, List.getElem_cons_zero, List.getElem_cons_succ, List.setIfInBounds_toArray, List.set_cons_zero, List.set_cons_succ]
  refine wpAnyH_take (i := 1) (v := ?_) rfl (by kernel_rfl) (by kernel_rfl) (by kernel_rfl) (fun _ _ _ h => h) (Or.inl ⟨by rfl, ?_⟩) (by assumption) ?_
  rotate_left
  · (intro w hSw; (try dsimp only at hSw); first | (go_simp; done) | (go_simp; with_reducible rfl))
  simp only [Act.put, List.getElem_toArray, List.getElem_cons_zero, List.getElem_cons_succ, List.setIfInBounds_toArray, List.set_cons_zero, List.set_cons_succ]
  refine wpAnyH_take (i := 2) (v := ?_) rfl (by kernel_rfl) (by kernel_rfl) (by kernel_rfl) (fun _ _ _ h => h) (Or.inl ⟨by rfl, ?_⟩) (by assumption) ?_
  rotate_left
  · (intro w hSw; (try dsimp only at hSw); first | (go_simp; done) | (go_simp; with_reducible rfl))
  simp only [Act.put, List.getElem_toArray, List.getElem_cons_zero, List.getElem_cons_succ, List.setIfInBounds_toArray, List.set_cons_zero, List.set_cons_succ]
  refine wpAnyH_take (i := 3) (v := ?_) rfl (by kernel_rfl) (by kernel_rfl) (by kernel_rfl) (fun _ _ _ h => h) (Or.inl ⟨by rfl, ?_⟩) (by assumption) ?_
  rotate_left
  · (intro w hSw; (try dsimp only at hSw); first | (go_simp; done) | (go_simp; with_reducible rfl))
  simp only [Act.put, List.getElem_toArray, List.getElem_cons_zero, List.getElem_cons_succ, List.setIfInBounds_toArray, List.set_cons_zero, List.set_cons_succ]
  refine wpAnyH_take (i := 4) (v := ?_) rfl (by kernel_rfl) (by kernel_rfl) (by kernel_rfl) (fun _ _ _ h => h) (Or.inl ⟨by rfl, ?_⟩) (by assumption) ?_
  rotate_left
  · (intro w hSw; (try dsimp only at hSw); first | (go_simp; done) | (go_simp; with_reducible rfl))
  simp only [Act.put, List.getElem_toArray, List.getElem_cons_zero, List.getElem_cons_succ, List.setIfInBounds_toArray, List.set_cons_zero, List.set_cons_succ]
  refine wpAnyH_take (i := 5) (v := ?_) rfl (by kernel_rfl) (by kernel_rfl) (by kernel_rfl) (fun _ _ _ h => h) (Or.inl ⟨by rfl, ?_⟩) (by assumption) ?_
  rotate_left
  · (intro w hSw; (try dsimp only at hSw); first | (go_simp; done) | (go_simp; with_reducible rfl))
  simp only [Act.put, List.getElem_toArray, List.getElem_cons_zero, List.getElem_cons_succ, List.setIfInBounds_toArray, List.set_cons_zero, List.set_cons_succ]
  refine wpAnyH_take (i := 6) (v := ?_) rfl (by kernel_rfl) (by kernel_rfl) (by kernel_rfl) (fun _ _ _ h => h) (Or.inl ⟨by rfl, ?_⟩) (by assumption) ?_
  rotate_left
  · (intro w hSw; (try dsimp only at hSw); first | (go_simp; done) | (go_simp; with_reducible rfl))
  simp only [Act.put, List.getElem_toArray, List.getElem_cons_zero, List.getElem_cons_succ, List.setIfInBounds_toArray, List.set_cons_zero, List.set_cons_succ]
  refine wpAnyH_take (i := 7) (v := ?_) rfl (by kernel_rfl) (by kernel_rfl) (by kernel_rfl) (fun _ _ _ h => h) (Or.inl ⟨by rfl, ?_⟩) (by assumption) ?_
  rotate_left
  · (intro w hSw; (try dsimp only at hSw); first | (go_simp; done) | (go_simp; with_reducible rfl))
  simp only [Act.put, List.getElem_toArray, List.getElem_cons_zero, List.getElem_cons_succ, List.setIfInBounds_toArray, List.set_cons_zero, List.set_cons_succ]
  refine wpAnyH_take (i := 8) (v := ?_) rfl (by kernel_rfl) (by kernel_rfl) (by kernel_rfl) (fun _ _ _ h => h) (Or.inl ⟨by rfl, ?_⟩) (by assumption) ?_
  rotate_left
  · (intro w hSw; (try dsimp only at hSw); first | (go_simp; done) | (go_simp; with_reducible rfl))
  simp only [Act.put, List.getElem_toArray, List.getElem_cons_zero, List.getElem_cons_succ, List.setIfInBounds_toArray, List.set_cons_zero, List.set_cons_succ]
  refine wpAnyH_take (i := 9) (v := ?_) rfl (by kernel_rfl) (by kernel_rfl) (by kernel_rfl) (fun _ _ _ h => h) (Or.inl ⟨by rfl, ?_⟩) (by assumption) ?_
  rotate_left
  · (intro w hSw; (try dsimp only at hSw); first | (go_simp; done) | (go_simp; with_reducible rfl))
  simp only [Act.put, List.getElem_toArray, List.getElem_cons_zero, List.getElem_cons_succ, List.setIfInBounds_toArray, List.set_cons_zero, List.set_cons_succ]
  refine wpAnyH_take (i := 10) (v := ?_) rfl (by kernel_rfl) (by kernel_rfl) (by kernel_rfl) (fun _ _ _ h => h) (Or.inl ⟨by rfl, ?_⟩) (by assumption) ?_
  rotate_left
  · (intro w hSw; (try dsimp only at hSw); first | (go_simp; done) | (go_simp; with_reducible rfl))
  simp only [Act.put, List.getElem_toArray, List.getElem_cons_zero, List.getElem_cons_succ, List.setIfInBounds_toArray, List.set_cons_zero, List.set_cons_succ]
  refine wpAnyH_ready (rs := [11]) (by kernel_rfl) (by simp) ?_
  refine AllReadyH.cons rfl (fun K hK => ?_) AllReadyH.nil
  go_simp
  go_wp2_with (go_at_call 28; refine PL.out.mono ?_; rintro e w3 ⟨rfl, hb⟩)
  have B3 := Lib.hid hb
  refine hK.out _ _ (KS.out _ hb) (fun hH1 => ?_)
  clear hK K hHeld hb
  refine wpAnyH_take (i := 12) (v := (.bool (!true))) rfl (by kernel_rfl) (by kernel_rfl) (by kernel_rfl) (fun _ _ _ h => h) (Or.inl ⟨by rfl, by (intro w hSw; (try dsimp only at hSw); exact run_bin rfl rfl rfl guard_cmd (hne w))⟩) (by assumption) ?_
  simp only [Act.put, List.getElem_toArray, List.getElem_cons_zero, List.getElem_cons_succ, List.setIfInBounds_toArray, List.set_cons_zero, List.set_cons_succ]
  refine wpAnyH_take (i := 13) (v := ?_) rfl (by kernel_rfl) (by kernel_rfl) (by kernel_rfl) (fun _ _ _ h => h) (Or.inl ⟨by rfl, ?_⟩) (by assumption) ?_
  rotate_left
  · (intro w hSw; (try dsimp only at hSw); first | (go_simp; done) | (go_simp; with_reducible rfl))
  simp only [Act.put, List.getElem_toArray, List.getElem_cons_zero, List.getElem_cons_succ, List.setIfInBounds_toArray, List.set_cons_zero, List.set_cons_succ]
  refine wpAnyH_done (by kernel_rfl) ?_ _
  clear hH1 hne
  have K3 := BXD.out.below B3.out BXD.out.lt
  have q0 := K3.cell 0
  have q2 := K3.cell 2
  have q7 := K3.cell 7
  have q8 := K3.cell 8
  clear K3 b0 b1 b2 b3 b4 b5 b6 b7 b8
  go_wp2_with fail
  refine (isKind_any x.k w3).mono ?_
  rintro e w4 ⟨rfl, e4⟩
  subst e4
  rw [decide_eq_true hk]
  have t1 : decide ((x.t.size : Int) ≤ 16) = false := decide_eq_false (by omega)
  clear hk hl ht
  go_wp2_with fail
  go_ret
  exact ⟨rfl, up MD.out B3.out MD.out.size⟩
set_option maxRecDepth 100000 in
set_option maxHeartbeats 8000000 in
theorem right_l0 (x : Cm) (w : World) (hT : Tab w) (hx : x.Ok) (h1 : 0 ≤ x.s) (h2 : x.s ≤ 1048576) (hq : eqb x (plainM x) = true) (hl : x.l.size ≠ 0) (hn : nm.okN x.l = false) : Calls Tryd.prog 12 #[.agg #[.int .i64 x.s, .int .i64 x.w, .int .i64 x.k, .int .i64 x.a, .int .i64 x.b, .int .i64 x.c, .int .i64 x.d, .string x.t, .string x.l]] w (BoolP false w) := by
  have k1 : decide (x.s < 0) = false := decide_eq_false (by omega)
  have k2 : decide (x.s > 1048576) = false := decide_eq_false (by omega)
  have hne := fun w => run_neq hx (plain_ok hx) w
  rw [hq] at hne
  have T1 := Lib.hid (hT.keep (made w (.cells #[.int .i64 x.s, .int .i64 x.w, .int .i64 x.k, .int .i64 x.a, .int .i64 x.b, .int .i64 x.c, .int .i64 x.d, .string x.t, .string x.l] 25)))
  have he : x.l.toList.isEmpty = false := by rw [toList_empty]; exact decide_eq_false hl
  have XL := Lib.hid (show x.l.size ≤ 9223372036854775807 from by have := hx.l; unfold maxLen at this; omega)
  have M1 := Lib.hid (made w (.cells #[.int .i64 x.s, .int .i64 x.w, .int .i64 x.k, .int .i64 x.a, .int .i64 x.b, .int .i64 x.c, .int .i64 x.d, .string x.t, .string x.l] 25))
  have bx := Blk.new w 25 #[.int .i64 x.s, .int .i64 x.w, .int .i64 x.k, .int .i64 x.a, .int .i64 x.b, .int .i64 x.c, .int .i64 x.d, .string x.t, .string x.l]
  have BX := Lib.hid bx
  have b0 := bx.cell 0
  have b1 := bx.cell 1
  have b2 := bx.cell 2
  have b3 := bx.cell 3
  have b4 := bx.cell 4
  have b5 := bx.cell 5
  have b6 := bx.cell 6
  have b7 := bx.cell 7
  have b8 := bx.cell 8
  clear bx
  generalize hw1 : w.alloc (.cells #[.int .i64 x.s, .int .i64 x.w, .int .i64 x.k, .int .i64 x.a, .int .i64 x.b, .int .i64 x.c, .int .i64 x.d, .string x.t, .string x.l] 25) = w1 at *
  have PL := Lib.hid (plain_any x w1.drew (T1.out.keep (Below.refl _ _).drew))
  clear h1 h2 hT hx
  unfold PlainP at PL
  generalize plainM x = p at *
  go_enter Tryd.func12, Tryd.ntmps12
  go_upto_region 1 with (rw [hw1])
  refine wp_region_held_drew (S := fun ws => ws.cell? ⟨w.heap.size, 0, none⟩ = some (.int .i64 x.s) ∧ ws.cell? ⟨w.heap.size, 1, none⟩ = some (.int .i64 x.w) ∧ ws.cell? ⟨w.heap.size, 2, none⟩ = some (.int .i64 x.k) ∧ ws.cell? ⟨w.heap.size, 3, none⟩ = some (.int .i64 x.a) ∧ ws.cell? ⟨w.heap.size, 4, none⟩ = some (.int .i64 x.b) ∧ ws.cell? ⟨w.heap.size, 5, none⟩ = some (.int .i64 x.c) ∧ ws.cell? ⟨w.heap.size, 6, none⟩ = some (.int .i64 x.d) ∧ ws.cell? ⟨w.heap.size, 7, none⟩ = some (.string x.t) ∧ ws.cell? ⟨w.heap.size, 8, none⟩ = some (.string x.l)) (by kernel_rfl) ⟨b0, b1, b2, b3, b4, b5, b6, b7, b8⟩ (fun hHeld => ?_)
  have BXD := Lib.hid (show Blk w1.drew w.heap.size 25 #[.int .i64 x.s, .int .i64 x.w, .int .i64 x.k, .int .i64 x.a, .int .i64 x.b, .int .i64 x.c, .int .i64 x.d, .string x.t, .string x.l] from BX.out.drewN 1)
  have MD := Lib.hid (show Below w.heap.size w w1.drew from base.below_drewN M1.out 1)
  generalize w1.drew = w2 at *
  have KS := Lib.hid (fun ws (h : Below w2.heap.size w2 ws) => (show ws.cell? ⟨w.heap.size, 0, none⟩ = some (.int .i64 x.s) ∧ ws.cell? ⟨w.heap.size, 1, none⟩ = some (.int .i64 x.w) ∧ ws.cell? ⟨w.heap.size, 2, none⟩ = some (.int .i64 x.k) ∧ ws.cell? ⟨w.heap.size, 3, none⟩ = some (.int .i64 x.a) ∧ ws.cell? ⟨w.heap.size, 4, none⟩ = some (.int .i64 x.b) ∧ ws.cell? ⟨w.heap.size, 5, none⟩ = some (.int .i64 x.c) ∧ ws.cell? ⟨w.heap.size, 6, none⟩ = some (.int .i64 x.d) ∧ ws.cell? ⟨w.heap.size, 7, none⟩ = some (.string x.t) ∧ ws.cell? ⟨w.heap.size, 8, none⟩ = some (.string x.l) from ⟨(BXD.out.below h BXD.out.lt).cell 0, (BXD.out.below h BXD.out.lt).cell 1, (BXD.out.below h BXD.out.lt).cell 2, (BXD.out.below h BXD.out.lt).cell 3, (BXD.out.below h BXD.out.lt).cell 4, (BXD.out.below h BXD.out.lt).cell 5, (BXD.out.below h BXD.out.lt).cell 6, (BXD.out.below h BXD.out.lt).cell 7, (BXD.out.below h BXD.out.lt).cell 8⟩))
  refine wpAnyH_take (i := 0) (v := ?_) rfl (by kernel_rfl) (by kernel_rfl) (by kernel_rfl) (fun _ _ _ h => h) (Or.inl ⟨by rfl, ?_⟩) (by assumption) ?_
  rotate_left
  · (intro w hSw; (try dsimp only at hSw); first | (go_simp; done) | (go_simp; with_reducible rfl))
  simp only [Act.put, List.getElem_toArray, List.getElem_cons_zero, List.getElem_cons_succ, List.setIfInBounds_toArray, List.set_cons_zero, List.set_cons_succ]
  refine wpAnyH_take (i := 1) (v := ?_) rfl (by kernel_rfl) (by kernel_rfl) (by kernel_rfl) (fun _ _ _ h => h) (Or.inl ⟨by rfl, ?_⟩) (by assumption) ?_
  rotate_left
  · (intro w hSw; (try dsimp only at hSw); first | (go_simp; done) | (go_simp; with_reducible rfl))
  simp only [Act.put, List.getElem_toArray, List.getElem_cons_zero, List.getElem_cons_succ, List.setIfInBounds_toArray, List.set_cons_zero, List.set_cons_succ]
  refine wpAnyH_take (i := 2) (v := ?_) rfl (by kernel_rfl) (by kernel_rfl) (by kernel_rfl) (fun _ _ _ h => h) (Or.inl ⟨by rfl, ?_⟩) (by assumption) ?_
  rotate_left
  · (intro w hSw; (try dsimp only at hSw); first | (go_simp; done) | (go_simp; with_reducible rfl))
  simp only [Act.put, List.getElem_toArray, List.getElem_cons_zero, List.getElem_cons_succ, List.setIfInBounds_toArray, List.set_cons_zero, List.set_cons_succ]
  refine wpAnyH_take (i := 3) (v := ?_) rfl (by kernel_rfl) (by kernel_rfl) (by kernel_rfl) (fun _ _ _ h => h) (Or.inl ⟨by rfl, ?_⟩) (by assumption) ?_
  rotate_left
  · (intro w hSw; (try dsimp only at hSw); first | (go_simp; done) | (go_simp; with_reducible rfl))
  simp only [Act.put, List.getElem_toArray, List.getElem_cons_zero, List.getElem_cons_succ, List.setIfInBounds_toArray, List.set_cons_zero, List.set_cons_succ]
  refine wpAnyH_take (i := 4) (v := ?_) rfl (by kernel_rfl) (by kernel_rfl) (by kernel_rfl) (fun _ _ _ h => h) (Or.inl ⟨by rfl, ?_⟩) (by assumption) ?_
  rotate_left
  · (intro w hSw; (try dsimp only at hSw); first | (go_simp; done) | (go_simp; with_reducible rfl))
  simp only [Act.put, List.getElem_toArray, List.getElem_cons_zero, List.getElem_cons_succ, List.setIfInBounds_toArray, List.set_cons_zero, List.set_cons_succ]
  refine wpAnyH_take (i := 5) (v := ?_) rfl (by kernel_rfl) (by kernel_rfl) (by kernel_rfl) (fun _ _ _ h => h) (Or.inl ⟨by rfl, ?_⟩) (by assumption) ?_
  rotate_left
  · (intro w hSw; (try dsimp only at hSw); first | (go_simp; done) | (go_simp; with_reducible rfl))
  simp only [Act.put, List.getElem_toArray, List.getElem_cons_zero, List.getElem_cons_succ, List.setIfInBounds_toArray, List.set_cons_zero, List.set_cons_succ]
  refine wpAnyH_take (i := 6) (v := ?_) rfl (by kernel_rfl) (by kernel_rfl) (by kernel_rfl) (fun _ _ _ h => h) (Or.inl ⟨by rfl, ?_⟩) (by assumption) ?_
  rotate_left
  · (intro w hSw; (try dsimp only at hSw); first | (go_simp; done) | (go_simp; with_reducible rfl))
  simp only [Act.put, List.getElem_toArray, List.getElem_cons_zero, List.getElem_cons_succ, List.setIfInBounds_toArray, List.set_cons_zero, List.set_cons_succ]
  refine wpAnyH_take (i := 7) (v := ?_) rfl (by kernel_rfl) (by kernel_rfl) (by kernel_rfl) (fun _ _ _ h => h) (Or.inl ⟨by rfl, ?_⟩) (by assumption) ?_
  rotate_left
  · (intro w hSw; (try dsimp only at hSw); first | (go_simp; done) | (go_simp; with_reducible rfl))
  simp only [Act.put, List.getElem_toArray, List.getElem_cons_zero, List.getElem_cons_succ, List.setIfInBounds_toArray, List.set_cons_zero, List.set_cons_succ]
  refine wpAnyH_take (i := 8) (v := ?_) rfl (by kernel_rfl) (by kernel_rfl) (by kernel_rfl) (fun _ _ _ h => h) (Or.inl ⟨by rfl, ?_⟩) (by assumption) ?_
  rotate_left
  · (intro w hSw; (try dsimp only at hSw); first | (go_simp; done) | (go_simp; with_reducible rfl))
  simp only [Act.put, List.getElem_toArray, List.getElem_cons_zero, List.getElem_cons_succ, List.setIfInBounds_toArray, List.set_cons_zero, List.set_cons_succ]
  refine wpAnyH_take (i := 9) (v := ?_) rfl (by kernel_rfl) (by kernel_rfl) (by kernel_rfl) (fun _ _ _ h => h) (Or.inl ⟨by rfl, ?_⟩) (by assumption) ?_
  rotate_left
  · (intro w hSw; (try dsimp only at hSw); first | (go_simp; done) | (go_simp; with_reducible rfl))
  simp only [Act.put, List.getElem_toArray, List.getElem_cons_zero, List.getElem_cons_succ, List.setIfInBounds_toArray, List.set_cons_zero, List.set_cons_succ]
  refine wpAnyH_take (i := 10) (v := ?_) rfl (by kernel_rfl) (by kernel_rfl) (by kernel_rfl) (fun _ _ _ h => h) (Or.inl ⟨by rfl, ?_⟩) (by assumption) ?_
  rotate_left
  · (intro w hSw; (try dsimp only at hSw); first | (go_simp; done) | (go_simp; with_reducible rfl))
  simp only [Act.put, List.getElem_toArray, List.getElem_cons_zero, List.getElem_cons_succ, List.setIfInBounds_toArray, List.set_cons_zero, List.set_cons_succ]
  refine wpAnyH_ready (rs := [11]) (by kernel_rfl) (by simp) ?_
  refine AllReadyH.cons rfl (fun K hK => ?_) AllReadyH.nil
  go_simp
  go_wp2_with (go_at_call 28; refine PL.out.mono ?_; rintro e w3 ⟨rfl, hb⟩)
  have B3 := Lib.hid hb
  refine hK.out _ _ (KS.out _ hb) (fun hH1 => ?_)
  clear hK K hHeld hb
  refine wpAnyH_take (i := 12) (v := (.bool (!true))) rfl (by kernel_rfl) (by kernel_rfl) (by kernel_rfl) (fun _ _ _ h => h) (Or.inl ⟨by rfl, by (intro w hSw; (try dsimp only at hSw); exact run_bin rfl rfl rfl guard_cmd (hne w))⟩) (by assumption) ?_
  simp only [Act.put, List.getElem_toArray, List.getElem_cons_zero, List.getElem_cons_succ, List.setIfInBounds_toArray, List.set_cons_zero, List.set_cons_succ]
  refine wpAnyH_take (i := 13) (v := ?_) rfl (by kernel_rfl) (by kernel_rfl) (by kernel_rfl) (fun _ _ _ h => h) (Or.inl ⟨by rfl, ?_⟩) (by assumption) ?_
  rotate_left
  · (intro w hSw; (try dsimp only at hSw); first | (go_simp; done) | (go_simp; with_reducible rfl))
  simp only [Act.put, List.getElem_toArray, List.getElem_cons_zero, List.getElem_cons_succ, List.setIfInBounds_toArray, List.set_cons_zero, List.set_cons_succ]
  refine wpAnyH_done (by kernel_rfl) ?_ _
  clear hH1 hne
  have K3 := BXD.out.below B3.out BXD.out.lt
  have q0 := K3.cell 0
  have q2 := K3.cell 2
  have q7 := K3.cell 7
  have q8 := K3.cell 8
  clear K3 b0 b1 b2 b3 b4 b5 b6 b7 b8
  have NMA := Lib.hid (show Calls Tryd.prog 29 #[.string x.l] w3 (fun e w' => e = .returned (.bool false) ∧ w3 = w') from by have := nm.name_any x.l w3 XL.out; rwa [hn] at this)
  clear hl hn
  go_wp2_with fail
  refine NMA.out.mono ?_
  rintro e w4 ⟨rfl, e4⟩
  subst e4
  go_wp2_with fail
  go_ret
  exact ⟨rfl, up MD.out B3.out MD.out.size⟩
set_option maxRecDepth 100000 in
set_option maxHeartbeats 8000000 in
theorem right_l1 (x : Cm) (w : World) (hT : Tab w) (hx : x.Ok) (h1 : 0 ≤ x.s) (h2 : x.s ≤ 1048576) (hq : eqb x (plainM x) = true) (hl : x.l.size ≠ 0) (hn : nm.okN x.l = true) (h0 : x.s = 0) : Calls Tryd.prog 12 #[.agg #[.int .i64 x.s, .int .i64 x.w, .int .i64 x.k, .int .i64 x.a, .int .i64 x.b, .int .i64 x.c, .int .i64 x.d, .string x.t, .string x.l]] w (BoolP false w) := by
  have k1 : decide (x.s < 0) = false := decide_eq_false (by omega)
  have k2 : decide (x.s > 1048576) = false := decide_eq_false (by omega)
  have hne := fun w => run_neq hx (plain_ok hx) w
  rw [hq] at hne
  have T1 := Lib.hid (hT.keep (made w (.cells #[.int .i64 x.s, .int .i64 x.w, .int .i64 x.k, .int .i64 x.a, .int .i64 x.b, .int .i64 x.c, .int .i64 x.d, .string x.t, .string x.l] 25)))
  have he : x.l.toList.isEmpty = false := by rw [toList_empty]; exact decide_eq_false hl
  have XL := Lib.hid (show x.l.size ≤ 9223372036854775807 from by have := hx.l; unfold maxLen at this; omega)
  have t1 : (x.s != 0) = false := by rw [h0]; rfl
  clear h0
  have M1 := Lib.hid (made w (.cells #[.int .i64 x.s, .int .i64 x.w, .int .i64 x.k, .int .i64 x.a, .int .i64 x.b, .int .i64 x.c, .int .i64 x.d, .string x.t, .string x.l] 25))
  have bx := Blk.new w 25 #[.int .i64 x.s, .int .i64 x.w, .int .i64 x.k, .int .i64 x.a, .int .i64 x.b, .int .i64 x.c, .int .i64 x.d, .string x.t, .string x.l]
  have BX := Lib.hid bx
  have b0 := bx.cell 0
  have b1 := bx.cell 1
  have b2 := bx.cell 2
  have b3 := bx.cell 3
  have b4 := bx.cell 4
  have b5 := bx.cell 5
  have b6 := bx.cell 6
  have b7 := bx.cell 7
  have b8 := bx.cell 8
  clear bx
  generalize hw1 : w.alloc (.cells #[.int .i64 x.s, .int .i64 x.w, .int .i64 x.k, .int .i64 x.a, .int .i64 x.b, .int .i64 x.c, .int .i64 x.d, .string x.t, .string x.l] 25) = w1 at *
  have PL := Lib.hid (plain_any x w1.drew (T1.out.keep (Below.refl _ _).drew))
  clear h1 h2 hT hx
  unfold PlainP at PL
  generalize plainM x = p at *
  go_enter Tryd.func12, Tryd.ntmps12
  go_upto_region 1 with (rw [hw1])
  refine wp_region_held_drew (S := fun ws => ws.cell? ⟨w.heap.size, 0, none⟩ = some (.int .i64 x.s) ∧ ws.cell? ⟨w.heap.size, 1, none⟩ = some (.int .i64 x.w) ∧ ws.cell? ⟨w.heap.size, 2, none⟩ = some (.int .i64 x.k) ∧ ws.cell? ⟨w.heap.size, 3, none⟩ = some (.int .i64 x.a) ∧ ws.cell? ⟨w.heap.size, 4, none⟩ = some (.int .i64 x.b) ∧ ws.cell? ⟨w.heap.size, 5, none⟩ = some (.int .i64 x.c) ∧ ws.cell? ⟨w.heap.size, 6, none⟩ = some (.int .i64 x.d) ∧ ws.cell? ⟨w.heap.size, 7, none⟩ = some (.string x.t) ∧ ws.cell? ⟨w.heap.size, 8, none⟩ = some (.string x.l)) (by kernel_rfl) ⟨b0, b1, b2, b3, b4, b5, b6, b7, b8⟩ (fun hHeld => ?_)
  have BXD := Lib.hid (show Blk w1.drew w.heap.size 25 #[.int .i64 x.s, .int .i64 x.w, .int .i64 x.k, .int .i64 x.a, .int .i64 x.b, .int .i64 x.c, .int .i64 x.d, .string x.t, .string x.l] from BX.out.drewN 1)
  have MD := Lib.hid (show Below w.heap.size w w1.drew from base.below_drewN M1.out 1)
  generalize w1.drew = w2 at *
  have KS := Lib.hid (fun ws (h : Below w2.heap.size w2 ws) => (show ws.cell? ⟨w.heap.size, 0, none⟩ = some (.int .i64 x.s) ∧ ws.cell? ⟨w.heap.size, 1, none⟩ = some (.int .i64 x.w) ∧ ws.cell? ⟨w.heap.size, 2, none⟩ = some (.int .i64 x.k) ∧ ws.cell? ⟨w.heap.size, 3, none⟩ = some (.int .i64 x.a) ∧ ws.cell? ⟨w.heap.size, 4, none⟩ = some (.int .i64 x.b) ∧ ws.cell? ⟨w.heap.size, 5, none⟩ = some (.int .i64 x.c) ∧ ws.cell? ⟨w.heap.size, 6, none⟩ = some (.int .i64 x.d) ∧ ws.cell? ⟨w.heap.size, 7, none⟩ = some (.string x.t) ∧ ws.cell? ⟨w.heap.size, 8, none⟩ = some (.string x.l) from ⟨(BXD.out.below h BXD.out.lt).cell 0, (BXD.out.below h BXD.out.lt).cell 1, (BXD.out.below h BXD.out.lt).cell 2, (BXD.out.below h BXD.out.lt).cell 3, (BXD.out.below h BXD.out.lt).cell 4, (BXD.out.below h BXD.out.lt).cell 5, (BXD.out.below h BXD.out.lt).cell 6, (BXD.out.below h BXD.out.lt).cell 7, (BXD.out.below h BXD.out.lt).cell 8⟩))
  refine wpAnyH_take (i := 0) (v := ?_) rfl (by kernel_rfl) (by kernel_rfl) (by kernel_rfl) (fun _ _ _ h => h) (Or.inl ⟨by rfl, ?_⟩) (by assumption) ?_
  rotate_left
  · (intro w hSw; (try dsimp only at hSw); first | (go_simp; done) | (go_simp; with_reducible rfl))
  simp only [Act.put, List.getElem_toArray, List.getElem_cons_zero, List.getElem_cons_succ, List.setIfInBounds_toArray, List.set_cons_zero, List.set_cons_succ]
  refine wpAnyH_take (i := 1) (v := ?_) rfl (by kernel_rfl) (by kernel_rfl) (by kernel_rfl) (fun _ _ _ h => h) (Or.inl ⟨by rfl, ?_⟩) (by assumption) ?_
  rotate_left
  · (intro w hSw; (try dsimp only at hSw); first | (go_simp; done) | (go_simp; with_reducible rfl))
  simp only [Act.put, List.getElem_toArray, List.getElem_cons_zero, List.getElem_cons_succ, List.setIfInBounds_toArray, List.set_cons_zero, List.set_cons_succ]
  refine wpAnyH_take (i := 2) (v := ?_) rfl (by kernel_rfl) (by kernel_rfl) (by kernel_rfl) (fun _ _ _ h => h) (Or.inl ⟨by rfl, ?_⟩) (by assumption) ?_
  rotate_left
  · (intro w hSw; (try dsimp only at hSw); first | (go_simp; done) | (go_simp; with_reducible rfl))
  simp only [Act.put, List.getElem_toArray, List.getElem_cons_zero, List.getElem_cons_succ, List.setIfInBounds_toArray, List.set_cons_zero, List.set_cons_succ]
  refine wpAnyH_take (i := 3) (v := ?_) rfl (by kernel_rfl) (by kernel_rfl) (by kernel_rfl) (fun _ _ _ h => h) (Or.inl ⟨by rfl, ?_⟩) (by assumption) ?_
  rotate_left
  · (intro w hSw; (try dsimp only at hSw); first | (go_simp; done) | (go_simp; with_reducible rfl))
  simp only [Act.put, List.getElem_toArray, List.getElem_cons_zero, List.getElem_cons_succ, List.setIfInBounds_toArray, List.set_cons_zero, List.set_cons_succ]
  refine wpAnyH_take (i := 4) (v := ?_) rfl (by kernel_rfl) (by kernel_rfl) (by kernel_rfl) (fun _ _ _ h => h) (Or.inl ⟨by rfl, ?_⟩) (by assumption) ?_
  rotate_left
  · (intro w hSw; (try dsimp only at hSw); first | (go_simp; done) | (go_simp; with_reducible rfl))
  simp only [Act.put, List.getElem_toArray, List.getElem_cons_zero, List.getElem_cons_succ, List.setIfInBounds_toArray, List.set_cons_zero, List.set_cons_succ]
  refine wpAnyH_take (i := 5) (v := ?_) rfl (by kernel_rfl) (by kernel_rfl) (by kernel_rfl) (fun _ _ _ h => h) (Or.inl ⟨by rfl, ?_⟩) (by assumption) ?_
  rotate_left
  · (intro w hSw; (try dsimp only at hSw); first | (go_simp; done) | (go_simp; with_reducible rfl))
  simp only [Act.put, List.getElem_toArray, List.getElem_cons_zero, List.getElem_cons_succ, List.setIfInBounds_toArray, List.set_cons_zero, List.set_cons_succ]
  refine wpAnyH_take (i := 6) (v := ?_) rfl (by kernel_rfl) (by kernel_rfl) (by kernel_rfl) (fun _ _ _ h => h) (Or.inl ⟨by rfl, ?_⟩) (by assumption) ?_
  rotate_left
  · (intro w hSw; (try dsimp only at hSw); first | (go_simp; done) | (go_simp; with_reducible rfl))
  simp only [Act.put, List.getElem_toArray, List.getElem_cons_zero, List.getElem_cons_succ, List.setIfInBounds_toArray, List.set_cons_zero, List.set_cons_succ]
  refine wpAnyH_take (i := 7) (v := ?_) rfl (by kernel_rfl) (by kernel_rfl) (by kernel_rfl) (fun _ _ _ h => h) (Or.inl ⟨by rfl, ?_⟩) (by assumption) ?_
  rotate_left
  · (intro w hSw; (try dsimp only at hSw); first | (go_simp; done) | (go_simp; with_reducible rfl))
  simp only [Act.put, List.getElem_toArray, List.getElem_cons_zero, List.getElem_cons_succ, List.setIfInBounds_toArray, List.set_cons_zero, List.set_cons_succ]
  refine wpAnyH_take (i := 8) (v := ?_) rfl (by kernel_rfl) (by kernel_rfl) (by kernel_rfl) (fun _ _ _ h => h) (Or.inl ⟨by rfl, ?_⟩) (by assumption) ?_
  rotate_left
  · (intro w hSw; (try dsimp only at hSw); first | (go_simp; done) | (go_simp; with_reducible rfl))
  simp only [Act.put, List.getElem_toArray, List.getElem_cons_zero, List.getElem_cons_succ, List.setIfInBounds_toArray, List.set_cons_zero, List.set_cons_succ]
  refine wpAnyH_take (i := 9) (v := ?_) rfl (by kernel_rfl) (by kernel_rfl) (by kernel_rfl) (fun _ _ _ h => h) (Or.inl ⟨by rfl, ?_⟩) (by assumption) ?_
  rotate_left
  · (intro w hSw; (try dsimp only at hSw); first | (go_simp; done) | (go_simp; with_reducible rfl))
  simp only [Act.put, List.getElem_toArray, List.getElem_cons_zero, List.getElem_cons_succ, List.setIfInBounds_toArray, List.set_cons_zero, List.set_cons_succ]
  refine wpAnyH_take (i := 10) (v := ?_) rfl (by kernel_rfl) (by kernel_rfl) (by kernel_rfl) (fun _ _ _ h => h) (Or.inl ⟨by rfl, ?_⟩) (by assumption) ?_
  rotate_left
  · (intro w hSw; (try dsimp only at hSw); first | (go_simp; done) | (go_simp; with_reducible rfl))
  simp only [Act.put, List.getElem_toArray, List.getElem_cons_zero, List.getElem_cons_succ, List.setIfInBounds_toArray, List.set_cons_zero, List.set_cons_succ]
  refine wpAnyH_ready (rs := [11]) (by kernel_rfl) (by simp) ?_
  refine AllReadyH.cons rfl (fun K hK => ?_) AllReadyH.nil
  go_simp
  go_wp2_with (go_at_call 28; refine PL.out.mono ?_; rintro e w3 ⟨rfl, hb⟩)
  have B3 := Lib.hid hb
  refine hK.out _ _ (KS.out _ hb) (fun hH1 => ?_)
  clear hK K hHeld hb
  refine wpAnyH_take (i := 12) (v := (.bool (!true))) rfl (by kernel_rfl) (by kernel_rfl) (by kernel_rfl) (fun _ _ _ h => h) (Or.inl ⟨by rfl, by (intro w hSw; (try dsimp only at hSw); exact run_bin rfl rfl rfl guard_cmd (hne w))⟩) (by assumption) ?_
  simp only [Act.put, List.getElem_toArray, List.getElem_cons_zero, List.getElem_cons_succ, List.setIfInBounds_toArray, List.set_cons_zero, List.set_cons_succ]
  refine wpAnyH_take (i := 13) (v := ?_) rfl (by kernel_rfl) (by kernel_rfl) (by kernel_rfl) (fun _ _ _ h => h) (Or.inl ⟨by rfl, ?_⟩) (by assumption) ?_
  rotate_left
  · (intro w hSw; (try dsimp only at hSw); first | (go_simp; done) | (go_simp; with_reducible rfl))
  simp only [Act.put, List.getElem_toArray, List.getElem_cons_zero, List.getElem_cons_succ, List.setIfInBounds_toArray, List.set_cons_zero, List.set_cons_succ]
  refine wpAnyH_done (by kernel_rfl) ?_ _
  clear hH1 hne
  have K3 := BXD.out.below B3.out BXD.out.lt
  have q0 := K3.cell 0
  have q2 := K3.cell 2
  have q7 := K3.cell 7
  have q8 := K3.cell 8
  clear K3 b0 b1 b2 b3 b4 b5 b6 b7 b8
  have NMA := Lib.hid (show Calls Tryd.prog 29 #[.string x.l] w3 (fun e w' => e = .returned (.bool true) ∧ w3 = w') from by have := nm.name_any x.l w3 XL.out; rwa [hn] at this)
  clear hl hn
  go_wp2_with fail
  refine NMA.out.mono ?_
  rintro e w4 ⟨rfl, e4⟩
  subst e4
  go_wp2_with fail
  go_ret
  exact ⟨rfl, up MD.out B3.out MD.out.size⟩
set_option maxRecDepth 100000 in
set_option maxHeartbeats 8000000 in
theorem right_l2 (x : Cm) (w : World) (hT : Tab w) (hx : x.Ok) (h1 : 0 ≤ x.s) (h2 : x.s ≤ 1048576) (hq : eqb x (plainM x) = true) (hl : x.l.size ≠ 0) (hn : nm.okN x.l = true) (h0 : x.s ≠ 0) : Calls Tryd.prog 12 #[.agg #[.int .i64 x.s, .int .i64 x.w, .int .i64 x.k, .int .i64 x.a, .int .i64 x.b, .int .i64 x.c, .int .i64 x.d, .string x.t, .string x.l]] w (BoolP true w) := by
  have k1 : decide (x.s < 0) = false := decide_eq_false (by omega)
  have k2 : decide (x.s > 1048576) = false := decide_eq_false (by omega)
  have hne := fun w => run_neq hx (plain_ok hx) w
  rw [hq] at hne
  have T1 := Lib.hid (hT.keep (made w (.cells #[.int .i64 x.s, .int .i64 x.w, .int .i64 x.k, .int .i64 x.a, .int .i64 x.b, .int .i64 x.c, .int .i64 x.d, .string x.t, .string x.l] 25)))
  have he : x.l.toList.isEmpty = false := by rw [toList_empty]; exact decide_eq_false hl
  have XL := Lib.hid (show x.l.size ≤ 9223372036854775807 from by have := hx.l; unfold maxLen at this; omega)
  have M1 := Lib.hid (made w (.cells #[.int .i64 x.s, .int .i64 x.w, .int .i64 x.k, .int .i64 x.a, .int .i64 x.b, .int .i64 x.c, .int .i64 x.d, .string x.t, .string x.l] 25))
  have bx := Blk.new w 25 #[.int .i64 x.s, .int .i64 x.w, .int .i64 x.k, .int .i64 x.a, .int .i64 x.b, .int .i64 x.c, .int .i64 x.d, .string x.t, .string x.l]
  have BX := Lib.hid bx
  have b0 := bx.cell 0
  have b1 := bx.cell 1
  have b2 := bx.cell 2
  have b3 := bx.cell 3
  have b4 := bx.cell 4
  have b5 := bx.cell 5
  have b6 := bx.cell 6
  have b7 := bx.cell 7
  have b8 := bx.cell 8
  clear bx
  generalize hw1 : w.alloc (.cells #[.int .i64 x.s, .int .i64 x.w, .int .i64 x.k, .int .i64 x.a, .int .i64 x.b, .int .i64 x.c, .int .i64 x.d, .string x.t, .string x.l] 25) = w1 at *
  have PL := Lib.hid (plain_any x w1.drew (T1.out.keep (Below.refl _ _).drew))
  clear h1 h2 hT hx
  unfold PlainP at PL
  generalize plainM x = p at *
  go_enter Tryd.func12, Tryd.ntmps12
  go_upto_region 1 with (rw [hw1])
  refine wp_region_held_drew (S := fun ws => ws.cell? ⟨w.heap.size, 0, none⟩ = some (.int .i64 x.s) ∧ ws.cell? ⟨w.heap.size, 1, none⟩ = some (.int .i64 x.w) ∧ ws.cell? ⟨w.heap.size, 2, none⟩ = some (.int .i64 x.k) ∧ ws.cell? ⟨w.heap.size, 3, none⟩ = some (.int .i64 x.a) ∧ ws.cell? ⟨w.heap.size, 4, none⟩ = some (.int .i64 x.b) ∧ ws.cell? ⟨w.heap.size, 5, none⟩ = some (.int .i64 x.c) ∧ ws.cell? ⟨w.heap.size, 6, none⟩ = some (.int .i64 x.d) ∧ ws.cell? ⟨w.heap.size, 7, none⟩ = some (.string x.t) ∧ ws.cell? ⟨w.heap.size, 8, none⟩ = some (.string x.l)) (by kernel_rfl) ⟨b0, b1, b2, b3, b4, b5, b6, b7, b8⟩ (fun hHeld => ?_)
  have BXD := Lib.hid (show Blk w1.drew w.heap.size 25 #[.int .i64 x.s, .int .i64 x.w, .int .i64 x.k, .int .i64 x.a, .int .i64 x.b, .int .i64 x.c, .int .i64 x.d, .string x.t, .string x.l] from BX.out.drewN 1)
  have MD := Lib.hid (show Below w.heap.size w w1.drew from base.below_drewN M1.out 1)
  generalize w1.drew = w2 at *
  have KS := Lib.hid (fun ws (h : Below w2.heap.size w2 ws) => (show ws.cell? ⟨w.heap.size, 0, none⟩ = some (.int .i64 x.s) ∧ ws.cell? ⟨w.heap.size, 1, none⟩ = some (.int .i64 x.w) ∧ ws.cell? ⟨w.heap.size, 2, none⟩ = some (.int .i64 x.k) ∧ ws.cell? ⟨w.heap.size, 3, none⟩ = some (.int .i64 x.a) ∧ ws.cell? ⟨w.heap.size, 4, none⟩ = some (.int .i64 x.b) ∧ ws.cell? ⟨w.heap.size, 5, none⟩ = some (.int .i64 x.c) ∧ ws.cell? ⟨w.heap.size, 6, none⟩ = some (.int .i64 x.d) ∧ ws.cell? ⟨w.heap.size, 7, none⟩ = some (.string x.t) ∧ ws.cell? ⟨w.heap.size, 8, none⟩ = some (.string x.l) from ⟨(BXD.out.below h BXD.out.lt).cell 0, (BXD.out.below h BXD.out.lt).cell 1, (BXD.out.below h BXD.out.lt).cell 2, (BXD.out.below h BXD.out.lt).cell 3, (BXD.out.below h BXD.out.lt).cell 4, (BXD.out.below h BXD.out.lt).cell 5, (BXD.out.below h BXD.out.lt).cell 6, (BXD.out.below h BXD.out.lt).cell 7, (BXD.out.below h BXD.out.lt).cell 8⟩))
  refine wpAnyH_take (i := 0) (v := ?_) rfl (by kernel_rfl) (by kernel_rfl) (by kernel_rfl) (fun _ _ _ h => h) (Or.inl ⟨by rfl, ?_⟩) (by assumption) ?_
  rotate_left
  · (intro w hSw; (try dsimp only at hSw); first | (go_simp; done) | (go_simp; with_reducible rfl))
  simp only [Act.put, List.getElem_toArray, List.getElem_cons_zero, List.getElem_cons_succ, List.setIfInBounds_toArray, List.set_cons_zero, List.set_cons_succ]
  refine wpAnyH_take (i := 1) (v := ?_) rfl (by kernel_rfl) (by kernel_rfl) (by kernel_rfl) (fun _ _ _ h => h) (Or.inl ⟨by rfl, ?_⟩) (by assumption) ?_
  rotate_left
  · (intro w hSw; (try dsimp only at hSw); first | (go_simp; done) | (go_simp; with_reducible rfl))
  simp only [Act.put, List.getElem_toArray, List.getElem_cons_zero, List.getElem_cons_succ, List.setIfInBounds_toArray, List.set_cons_zero, List.set_cons_succ]
  refine wpAnyH_take (i := 2) (v := ?_) rfl (by kernel_rfl) (by kernel_rfl) (by kernel_rfl) (fun _ _ _ h => h) (Or.inl ⟨by rfl, ?_⟩) (by assumption) ?_
  rotate_left
  · (intro w hSw; (try dsimp only at hSw); first | (go_simp; done) | (go_simp; with_reducible rfl))
  simp only [Act.put, List.getElem_toArray, List.getElem_cons_zero, List.getElem_cons_succ, List.setIfInBounds_toArray, List.set_cons_zero, List.set_cons_succ]
  refine wpAnyH_take (i := 3) (v := ?_) rfl (by kernel_rfl) (by kernel_rfl) (by kernel_rfl) (fun _ _ _ h => h) (Or.inl ⟨by rfl, ?_⟩) (by assumption) ?_
  rotate_left
  · (intro w hSw; (try dsimp only at hSw); first | (go_simp; done) | (go_simp; with_reducible rfl))
  simp only [Act.put, List.getElem_toArray, List.getElem_cons_zero, List.getElem_cons_succ, List.setIfInBounds_toArray, List.set_cons_zero, List.set_cons_succ]
  refine wpAnyH_take (i := 4) (v := ?_) rfl (by kernel_rfl) (by kernel_rfl) (by kernel_rfl) (fun _ _ _ h => h) (Or.inl ⟨by rfl, ?_⟩) (by assumption) ?_
  rotate_left
  · (intro w hSw; (try dsimp only at hSw); first | (go_simp; done) | (go_simp; with_reducible rfl))
  simp only [Act.put, List.getElem_toArray, List.getElem_cons_zero, List.getElem_cons_succ, List.setIfInBounds_toArray, List.set_cons_zero, List.set_cons_succ]
  refine wpAnyH_take (i := 5) (v := ?_) rfl (by kernel_rfl) (by kernel_rfl) (by kernel_rfl) (fun _ _ _ h => h) (Or.inl ⟨by rfl, ?_⟩) (by assumption) ?_
  rotate_left
  · (intro w hSw; (try dsimp only at hSw); first | (go_simp; done) | (go_simp; with_reducible rfl))
  simp only [Act.put, List.getElem_toArray, List.getElem_cons_zero, List.getElem_cons_succ, List.setIfInBounds_toArray, List.set_cons_zero, List.set_cons_succ]
  refine wpAnyH_take (i := 6) (v := ?_) rfl (by kernel_rfl) (by kernel_rfl) (by kernel_rfl) (fun _ _ _ h => h) (Or.inl ⟨by rfl, ?_⟩) (by assumption) ?_
  rotate_left
  · (intro w hSw; (try dsimp only at hSw); first | (go_simp; done) | (go_simp; with_reducible rfl))
  simp only [Act.put, List.getElem_toArray, List.getElem_cons_zero, List.getElem_cons_succ, List.setIfInBounds_toArray, List.set_cons_zero, List.set_cons_succ]
  refine wpAnyH_take (i := 7) (v := ?_) rfl (by kernel_rfl) (by kernel_rfl) (by kernel_rfl) (fun _ _ _ h => h) (Or.inl ⟨by rfl, ?_⟩) (by assumption) ?_
  rotate_left
  · (intro w hSw; (try dsimp only at hSw); first | (go_simp; done) | (go_simp; with_reducible rfl))
  simp only [Act.put, List.getElem_toArray, List.getElem_cons_zero, List.getElem_cons_succ, List.setIfInBounds_toArray, List.set_cons_zero, List.set_cons_succ]
  refine wpAnyH_take (i := 8) (v := ?_) rfl (by kernel_rfl) (by kernel_rfl) (by kernel_rfl) (fun _ _ _ h => h) (Or.inl ⟨by rfl, ?_⟩) (by assumption) ?_
  rotate_left
  · (intro w hSw; (try dsimp only at hSw); first | (go_simp; done) | (go_simp; with_reducible rfl))
  simp only [Act.put, List.getElem_toArray, List.getElem_cons_zero, List.getElem_cons_succ, List.setIfInBounds_toArray, List.set_cons_zero, List.set_cons_succ]
  refine wpAnyH_take (i := 9) (v := ?_) rfl (by kernel_rfl) (by kernel_rfl) (by kernel_rfl) (fun _ _ _ h => h) (Or.inl ⟨by rfl, ?_⟩) (by assumption) ?_
  rotate_left
  · (intro w hSw; (try dsimp only at hSw); first | (go_simp; done) | (go_simp; with_reducible rfl))
  simp only [Act.put, List.getElem_toArray, List.getElem_cons_zero, List.getElem_cons_succ, List.setIfInBounds_toArray, List.set_cons_zero, List.set_cons_succ]
  refine wpAnyH_take (i := 10) (v := ?_) rfl (by kernel_rfl) (by kernel_rfl) (by kernel_rfl) (fun _ _ _ h => h) (Or.inl ⟨by rfl, ?_⟩) (by assumption) ?_
  rotate_left
  · (intro w hSw; (try dsimp only at hSw); first | (go_simp; done) | (go_simp; with_reducible rfl))
  simp only [Act.put, List.getElem_toArray, List.getElem_cons_zero, List.getElem_cons_succ, List.setIfInBounds_toArray, List.set_cons_zero, List.set_cons_succ]
  refine wpAnyH_ready (rs := [11]) (by kernel_rfl) (by simp) ?_
  refine AllReadyH.cons rfl (fun K hK => ?_) AllReadyH.nil
  go_simp
  go_wp2_with (go_at_call 28; refine PL.out.mono ?_; rintro e w3 ⟨rfl, hb⟩)
  have B3 := Lib.hid hb
  refine hK.out _ _ (KS.out _ hb) (fun hH1 => ?_)
  clear hK K hHeld hb
  refine wpAnyH_take (i := 12) (v := (.bool (!true))) rfl (by kernel_rfl) (by kernel_rfl) (by kernel_rfl) (fun _ _ _ h => h) (Or.inl ⟨by rfl, by (intro w hSw; (try dsimp only at hSw); exact run_bin rfl rfl rfl guard_cmd (hne w))⟩) (by assumption) ?_
  simp only [Act.put, List.getElem_toArray, List.getElem_cons_zero, List.getElem_cons_succ, List.setIfInBounds_toArray, List.set_cons_zero, List.set_cons_succ]
  refine wpAnyH_take (i := 13) (v := ?_) rfl (by kernel_rfl) (by kernel_rfl) (by kernel_rfl) (fun _ _ _ h => h) (Or.inl ⟨by rfl, ?_⟩) (by assumption) ?_
  rotate_left
  · (intro w hSw; (try dsimp only at hSw); first | (go_simp; done) | (go_simp; with_reducible rfl))
  simp only [Act.put, List.getElem_toArray, List.getElem_cons_zero, List.getElem_cons_succ, List.setIfInBounds_toArray, List.set_cons_zero, List.set_cons_succ]
  refine wpAnyH_done (by kernel_rfl) ?_ _
  clear hH1 hne
  have K3 := BXD.out.below B3.out BXD.out.lt
  have q0 := K3.cell 0
  have q2 := K3.cell 2
  have q7 := K3.cell 7
  have q8 := K3.cell 8
  clear K3 b0 b1 b2 b3 b4 b5 b6 b7 b8
  have NMA := Lib.hid (show Calls Tryd.prog 29 #[.string x.l] w3 (fun e w' => e = .returned (.bool true) ∧ w3 = w') from by have := nm.name_any x.l w3 XL.out; rwa [hn] at this)
  have t1 : (x.s != 0) = true := by simpa using h0
  clear hl hn h0
  go_wp2_with fail
  refine NMA.out.mono ?_
  rintro e w4 ⟨rfl, e4⟩
  subst e4
  go_wp2_with fail
  go_ret
  exact ⟨rfl, up MD.out B3.out MD.out.size⟩
theorem right_any (x : Cm) (w : World) (hT : Tab w) (hx : x.Ok) : Calls Tryd.prog 12 #[.agg #[.int .i64 x.s, .int .i64 x.w, .int .i64 x.k, .int .i64 x.a, .int .i64 x.b, .int .i64 x.c, .int .i64 x.d, .string x.t, .string x.l]] w (BoolP (rightM x) w) := by
  unfold rightM
  split
  · rename_i h
    rcases h with h | h
    · exact right_lo x w h
    · exact right_hi x w h
  rename_i h
  split
  · rename_i hq
    exact right_ne x w hT hx (by omega) (by omega) hq
  rename_i hq
  have hq : eqb x (plainM x) = true := by cases q : eqb x (plainM x) with | true => rfl | false => exact absurd q hq
  split
  · rename_i hl
    by_cases hk : 1 ≤ x.k ∧ x.k ≤ 27
    · by_cases ht : x.t.size ≤ 16
      · rw [decide_eq_true hk, decide_eq_true ht]
        exact right_o1 x w hT hx (by omega) (by omega) hq hl hk ht
      · rw [decide_eq_true hk, decide_eq_false ht]
        exact right_o2 x w hT hx (by omega) (by omega) hq hl hk ht
    · rw [decide_eq_false hk]
      exact right_o0 x w hT hx (by omega) (by omega) hq hl hk
  rename_i hl
  cases hn : nm.okN x.l with
  | false => exact right_l0 x w hT hx (by omega) (by omega) hq hl hn
  | true =>
    by_cases h0 : x.s = 0
    · rw [decide_eq_false (by simpa using h0)]
      exact right_l1 x w hT hx (by omega) (by omega) hq hl hn h0
    · rw [decide_eq_true h0]
      exact right_l2 x w hT hx (by omega) (by omega) hq hl hn h0
end Go.Proofs.YtndhammngejdiaaDoor.od
