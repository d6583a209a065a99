/-
  Quads: New, Set.
-/
import Derived.Test.YtpfnkmlfpkjkpaaQdK
namespace Go.Proofs.Ytpfnkmlfpkjkpaa.qd
open Go.RowKit Go.Shelf
open base (ret_bool ret_int made up Blk Only)
open rect rgm
set_option linter.unusedVariables false
set_option linter.unusedSimpArgs false
attribute [local go_sem] Oper.semAt_some

/-- one bit only: the powers of two -/
theorem pow_bits : (List.range 257).all (fun n => n == 0 || ((bits BinOp.and IntKind.i64 (n : Int) ((n : Int) - 1) != 0) == !(List.range 9).any (fun k => n == 2 ^ k))) = true := by kernel_rfl
theorem one_bit (s : Int) (h1 : 1 ≤ s) (h2 : s ≤ 256) : (bits BinOp.and IntKind.i64 s (s - 1) != 0) = !(List.range 9).any (fun k => s.toNat == 2 ^ k) := by
  have h := List.all_eq_true.1 pow_bits s.toNat (List.mem_range.2 (by omega))
  rw [show ((s.toNat : Nat) : Int) = s by omega] at h
  have h0 : (s.toNat == 0) = false := by
    rw [beq_eq_false_iff_ne]; omega
  rw [h0, Bool.false_or] at h
  exact eq_of_beq h
set_option maxHeartbeats 1000000 in
theorem new_low (s : Int) (w : World) (h : s < 1 ∨ 256 < s) : Calls Try.prog 27 #[.int .i64 s] w fun e w' => e = .returned (.pointer none) ∧ w' = w := by
  have d1 : decide (s < 1) = true ∨ (decide (s < 1) = false ∧ decide (256 < s) = true) := by
    rcases h with h | h
    · exact .inl (decide_eq_true h)
    · exact .inr ⟨decide_eq_false (by omega), decide_eq_true h⟩
  clear h
  rcases d1 with d1 | ⟨d1, d2⟩
  · go_enter Try.func27, Try.ntmps27
    go_wp2_with fail
    go_ret
    exact ⟨rfl, rfl⟩
  · go_enter Try.func27, Try.ntmps27
    go_wp2_with fail
    go_ret
    exact ⟨rfl, rfl⟩
set_option maxHeartbeats 1000000 in
theorem new_no (s : Int) (w : World) (h1 : 1 ≤ s) (h2 : s ≤ 256) (h : ∀ k, k ≤ 8 → s ≠ ((2 ^ k : Nat) : Int)) : Calls Try.prog 27 #[.int .i64 s] w fun e w' => e = .returned (.pointer none) ∧ w' = w := by
  have d1 : decide (s < 1) = false := decide_eq_false (by omega)
  have d2 : decide (256 < s) = false := decide_eq_false (by omega)
  have hw1 : IntKind.i64.wrap (s - 1) = s - 1 := IntWalk.i64_in _ (by omega)
  have hb : (bits BinOp.and IntKind.i64 s (s - 1) != 0) = true := by
    rw [one_bit s h1 h2, Bool.not_eq_true', List.any_eq_false]
    intro k hk q
    have hk := List.mem_range.1 hk
    have := eq_of_beq q
    exact h k (by omega) (by rw [← this]; omega)
  clear h h1 h2
  go_enter Try.func27, Try.ntmps27
  go_wp2_with fail
  go_ret
  exact ⟨rfl, rfl⟩
set_option maxHeartbeats 1000000 in
theorem new_yes (k : Nat) (w : World) (hk : k ≤ 8) : Calls Try.prog 27 #[.int .i64 ((2 ^ k : Nat) : Int)] w fun e w' => e = .returned (.pointer (some ⟨w.heap.size, 0, none⟩)) ∧ Below w.heap.size w w' ∧ QAt w' w.heap.size k (.leaf 0) := by
  have F : Hid (QAt (w.alloc (.cells #[.int .i64 ((2 ^ k : Nat) : Int), .int .i64 0, .pointer none] 72)) w.heap.size k (.leaf 0)) := Lib.hid (by
    have B := Blk.new w 72 #[.int .i64 ((2 ^ k : Nat) : Int), .int .i64 0, .pointer none]
    exact ⟨⟨_, B⟩, B.cell 0, ⟨B.cell 1, B.cell 2⟩, trivial, id, trivial, trivial, (by decide : 0 < 256), hk⟩)
  have M := Lib.hid (made w (.cells #[.int .i64 ((2 ^ k : Nat) : Int), .int .i64 0, .pointer none] 72))
  have hr : 1 ≤ ((2 ^ k : Nat) : Int) ∧ ((2 ^ k : Nat) : Int) ≤ 256 := by
    have h1 : 2 ^ k ≤ 2 ^ 8 := Nat.pow_le_pow_right (by decide) hk
    have h2 : 0 < 2 ^ k := pow_pos k
    generalize 2 ^ k = s at *
    omega
  have hb : (bits BinOp.and IntKind.i64 ((2 ^ k : Nat) : Int) (((2 ^ k : Nat) : Int) - 1) != 0) = false := by
    rw [one_bit _ hr.1 hr.2, Bool.not_eq_false', List.any_eq_true]
    exact ⟨k, List.mem_range.2 (by omega), by rw [beq_iff_eq]; omega⟩
  generalize ((2 ^ k : Nat) : Int) = s at *
  have d1 : decide (s < 1) = false := decide_eq_false (by omega)
  have d2 : decide (256 < s) = false := decide_eq_false (by omega)
  have hw1 : IntKind.i64.wrap (s - 1) = s - 1 := IntWalk.i64_in _ (by omega)
  clear hr
  go_enter Try.func27, Try.ntmps27
  go_wp2_with fail
  go_ret
  exact ⟨rfl, M.out, F.out⟩
/-- what Quad.Set's box and its rectangle hold -/
structure S5 (W : World) (g r k : Nat) (q : Q) (a b c d : Int) : Prop where
  q : QAt W g k q
  rb : Blk W r 42 #[.int .i64 a, .int .i64 b, .int .i64 c, .int .i64 d]
section
variable {W W' : World} {g r k : Nat} {q : Q} {a b c d : Int}
theorem S5.cells (h : S5 W g r k q a b c d) : W.cell? ⟨g, 0, none⟩ = some (.int .i64 ((2 ^ k : Nat) : Int)) ∧ W.cell? ⟨r, 0, none⟩ = some (.int .i64 a) ∧ W.cell? ⟨r, 1, none⟩ = some (.int .i64 b) ∧ W.cell? ⟨r, 2, none⟩ = some (.int .i64 c) ∧ W.cell? ⟨r, 3, none⟩ = some (.int .i64 d) := ⟨h.q.c0, h.rb.four⟩
theorem S5.below (h : S5 W g r k q a b c d) (hb : Below W.heap.size W W') : S5 W' g r k q a b c d := ⟨h.q.below hb, h.rb.below hb h.rb.lt⟩
theorem S5.drewN (h : S5 W g r k q a b c d) (n : Nat) : S5 (W.drewN n) g r k q a b c d := h.below (base.below_drewN (Below.refl _ _) n)
end
set_option maxRecDepth 100000 in
set_option maxHeartbeats 4000000 in
theorem qset_out (g k : Nat) (q : Q) (a b c d v : Int) (w : World) (h : QAt w g k q) (hn : ¬ inB 0 0 ((2 ^ k : Nat) : Int) a b c d) :
    Calls Try.prog 28 #[.pointer (some ⟨g, 0, none⟩), (.agg #[.int .i64 a, .int .i64 b, .int .i64 c, .int .i64 d]), .int .i64 v] w fun e w' => e = .returned (.int .i64 11) ∧ Below w.heap.size w w' := by
  obtain ⟨w1, hw1⟩ : ∃ w1, w.alloc (.cells #[.int .i64 a, .int .i64 b, .int .i64 c, .int .i64 d] 42) = w1 := ⟨_, rfl⟩
  have M1 := Lib.hid (show Below w.heap.size w w1 from by rw [← hw1]; exact made w _)
  have BX := h.box
  have B1 : Blk w1 w.heap.size 42 #[.int .i64 a, .int .i64 b, .int .i64 c, .int .i64 d] := by rw [← hw1]; exact Blk.new w _ _
  have S1 := Lib.hid (S5.mk (h.below M1.out) B1)
  have SC := Lib.hid S1.out.cells
  have CB := Lib.hid (fun (W : World) (hc : W.cell? ⟨g, 0, none⟩ = some (.int .i64 ((2 ^ k : Nat) : Int))) => box_any g ((2 ^ k : Nat) : Int) W hc)
  have CI := Lib.hid (fun (W : World) => rect_in 0 0 ((2 ^ k : Nat) : Int) a b c d W BX)
  have GQ := Lib.hid h
  have dI := decide_eq_false hn
  clear hn
  clear h BX B1
  go_enter Try.func28, Try.ntmps28
  go_upto_region 1 with fail
  try simp only [hw1]
  have SD := Lib.hid (show S5 w1.drew g w.heap.size k q a b c d from S1.out.drewN 1)
  have MD := Lib.hid (show Below w.heap.size w w1.drew from base.below_drewN M1.out 1)
  refine wp_region_held_drew (S := fun ws => ws.cell? ⟨g, 0, none⟩ = some (.int .i64 ((2 ^ k : Nat) : Int)) ∧ ws.cell? ⟨w.heap.size, 0, none⟩ = some (.int .i64 a) ∧ ws.cell? ⟨w.heap.size, 1, none⟩ = some (.int .i64 b) ∧ ws.cell? ⟨w.heap.size, 2, none⟩ = some (.int .i64 c) ∧ ws.cell? ⟨w.heap.size, 3, none⟩ = some (.int .i64 d)) (by kernel_rfl) SD.out.cells (fun hHeld => ?_)
  clear hw1 SC
  generalize w1.drew = wd at *
  refine wpAnyH_take (i := 0) (v := ?_) rfl (by kernel_rfl) (by kernel_rfl) (by kernel_rfl) (fun _ _ _ h => h) (Or.inl ⟨by rfl, ?_⟩) (by assumption) ?_
  rotate_left
  · (intro w hSw; (try dsimp only at hSw); first | (go_simp; done) | (go_simp; with_reducible rfl))
  simp only [Act.put, List.getElem_toArray, List.getElem_cons_zero, List.getElem_cons_succ, List.setIfInBounds_toArray, List.set_cons_zero, List.set_cons_succ]
  refine wpAnyH_take (i := 1) (v := ?_) rfl (by kernel_rfl) (by kernel_rfl) (by kernel_rfl) (fun _ _ _ h => h) (Or.inl ⟨by rfl, ?_⟩) (by assumption) ?_
  rotate_left
  · (intro w hSw; (try dsimp only at hSw); first | (go_simp; done) | (go_simp; with_reducible rfl))
  simp only [Act.put, List.getElem_toArray, List.getElem_cons_zero, List.getElem_cons_succ, List.setIfInBounds_toArray, List.set_cons_zero, List.set_cons_succ]
  refine wpAnyH_ready (rs := [2]) (by kernel_rfl) (by simp) ?_
  refine AllReadyH.cons rfl (fun K hK => ?_) AllReadyH.nil
  go_simp
  refine (CB.out _ SD.out.cells.1).mono ?_
  rintro e w3 ⟨rfl, hb3⟩
  have S3 := Lib.hid (SD.out.below hb3)
  have M3 := Lib.hid (up MD.out hb3 MD.out.size)
  refine hK.out _ _ S3.out.cells (fun hHeld2 => ?_)
  clear hK K hHeld hb3
  refine wpAnyH_ready (rs := [3]) (by kernel_rfl) (by simp) ?_
  refine AllReadyH.cons rfl (fun K hK => ?_) AllReadyH.nil
  go_simp
  refine (CI.out _).mono ?_
  rintro e w4 ⟨rfl, hb4⟩
  have S4 := Lib.hid (S3.out.below hb4)
  have M4 := Lib.hid (up M3.out hb4 M3.out.size)
  refine hK.out _ _ S4.out.cells (fun hHeld => ?_)
  clear hK K hHeld2 hb4
  simp only [dI]
  refine wpAnyH_take (i := 4) (v := ?_) rfl (by kernel_rfl) (by kernel_rfl) (by kernel_rfl) (fun _ _ _ h => h) (Or.inl ⟨by rfl, ?_⟩) (by assumption) ?_
  rotate_left
  · (intro w hSw; (try dsimp only at hSw); first | (go_simp; done) | (go_simp; with_reducible rfl))
  simp only [Act.put, List.getElem_toArray, List.getElem_cons_zero, List.getElem_cons_succ, List.setIfInBounds_toArray, List.set_cons_zero, List.set_cons_succ]
  refine wpAnyH_take (i := 5) (v := ?_) rfl (by kernel_rfl) (by kernel_rfl) (by kernel_rfl) (fun _ _ _ h => h) (Or.inl ⟨by rfl, ?_⟩) (by assumption) ?_
  rotate_left
  · (intro w hSw; (try dsimp only at hSw); first | (go_simp; done) | (go_simp; with_reducible rfl))
  simp only [Act.put, List.getElem_toArray, List.getElem_cons_zero, List.getElem_cons_succ, List.setIfInBounds_toArray, List.set_cons_zero, List.set_cons_succ]
  refine wpAnyH_take (i := 6) (v := undef) rfl (by kernel_rfl) (by kernel_rfl) (by kernel_rfl) (fun _ _ _ h => h) (Or.inr ⟨by rfl, rfl⟩) (by assumption) ?_
  simp only [Act.put, List.getElem_toArray, List.getElem_cons_zero, List.getElem_cons_succ, List.setIfInBounds_toArray, List.set_cons_zero, List.set_cons_succ]
  refine wpAnyH_take (i := 7) (v := undef) rfl (by kernel_rfl) (by kernel_rfl) (by kernel_rfl) (fun _ _ _ h => h) (Or.inr ⟨by rfl, rfl⟩) (by assumption) ?_
  simp only [Act.put, List.getElem_toArray, List.getElem_cons_zero, List.getElem_cons_succ, List.setIfInBounds_toArray, List.set_cons_zero, List.set_cons_succ]
  refine wpAnyH_take (i := 8) (v := ?_) rfl (by kernel_rfl) (by kernel_rfl) (by kernel_rfl) (fun _ _ _ h => h) (Or.inl ⟨by rfl, ?_⟩) (by assumption) ?_
  rotate_left
  · (intro w hSw; (try dsimp only at hSw); first | (go_simp; done) | (go_simp; with_reducible rfl))
  simp only [Act.put, List.getElem_toArray, List.getElem_cons_zero, List.getElem_cons_succ, List.setIfInBounds_toArray, List.set_cons_zero, List.set_cons_succ]
  refine wpAnyH_take (i := 9) (v := ?_) rfl (by kernel_rfl) (by kernel_rfl) (by kernel_rfl) (fun _ _ _ h => h) (Or.inl ⟨by rfl, ?_⟩) (by assumption) ?_
  rotate_left
  · (intro w hSw; (try dsimp only at hSw); first | (go_simp; done) | (go_simp; with_reducible rfl))
  simp only [Act.put, List.getElem_toArray, List.getElem_cons_zero, List.getElem_cons_succ, List.setIfInBounds_toArray, List.set_cons_zero, List.set_cons_succ]
  refine wpAnyH_take (i := 10) (v := undef) rfl (by kernel_rfl) (by kernel_rfl) (by kernel_rfl) (fun _ _ _ h => h) (Or.inr ⟨by rfl, rfl⟩) (by assumption) ?_
  simp only [Act.put, List.getElem_toArray, List.getElem_cons_zero, List.getElem_cons_succ, List.setIfInBounds_toArray, List.set_cons_zero, List.set_cons_succ]
  refine wpAnyH_take (i := 11) (v := undef) rfl (by kernel_rfl) (by kernel_rfl) (by kernel_rfl) (fun _ _ _ h => h) (Or.inr ⟨by rfl, rfl⟩) (by assumption) ?_
  simp only [Act.put, List.getElem_toArray, List.getElem_cons_zero, List.getElem_cons_succ, List.setIfInBounds_toArray, List.set_cons_zero, List.set_cons_succ]
  refine wpAnyH_take (i := 12) (v := ?_) rfl (by kernel_rfl) (by kernel_rfl) (by kernel_rfl) (fun _ _ _ h => h) (Or.inl ⟨by rfl, ?_⟩) (by assumption) ?_
  rotate_left
  · (intro w hSw; (try dsimp only at hSw); first | (go_simp; done) | (go_simp; with_reducible rfl))
  simp only [Act.put, List.getElem_toArray, List.getElem_cons_zero, List.getElem_cons_succ, List.setIfInBounds_toArray, List.set_cons_zero, List.set_cons_succ]
  refine wpAnyH_done (by kernel_rfl) ?_ _
  clear hHeld
  go_wp2_with fail
  go_ret
  exact ⟨rfl, M4.out⟩
set_option maxRecDepth 100000 in
set_option maxHeartbeats 4000000 in
theorem qset_neg (g k : Nat) (q : Q) (a b c d v : Int) (w : World) (h : QAt w g k q) (hi : inB 0 0 ((2 ^ k : Nat) : Int) a b c d) (hn : v < 0) :
    Calls Try.prog 28 #[.pointer (some ⟨g, 0, none⟩), (.agg #[.int .i64 a, .int .i64 b, .int .i64 c, .int .i64 d]), .int .i64 v] w fun e w' => e = .returned (.int .i64 11) ∧ Below w.heap.size w w' := by
  obtain ⟨w1, hw1⟩ : ∃ w1, w.alloc (.cells #[.int .i64 a, .int .i64 b, .int .i64 c, .int .i64 d] 42) = w1 := ⟨_, rfl⟩
  have M1 := Lib.hid (show Below w.heap.size w w1 from by rw [← hw1]; exact made w _)
  have BX := h.box
  have B1 : Blk w1 w.heap.size 42 #[.int .i64 a, .int .i64 b, .int .i64 c, .int .i64 d] := by rw [← hw1]; exact Blk.new w _ _
  have S1 := Lib.hid (S5.mk (h.below M1.out) B1)
  have SC := Lib.hid S1.out.cells
  have CB := Lib.hid (fun (W : World) (hc : W.cell? ⟨g, 0, none⟩ = some (.int .i64 ((2 ^ k : Nat) : Int))) => box_any g ((2 ^ k : Nat) : Int) W hc)
  have CI := Lib.hid (fun (W : World) => rect_in 0 0 ((2 ^ k : Nat) : Int) a b c d W BX)
  have GQ := Lib.hid h
  have dI := decide_eq_true hi
  have d1 : decide (v < 0) = true := decide_eq_true hn
  clear hn hi
  clear h BX B1
  go_enter Try.func28, Try.ntmps28
  go_upto_region 1 with fail
  try simp only [hw1]
  have SD := Lib.hid (show S5 w1.drew g w.heap.size k q a b c d from S1.out.drewN 1)
  have MD := Lib.hid (show Below w.heap.size w w1.drew from base.below_drewN M1.out 1)
  refine wp_region_held_drew (S := fun ws => ws.cell? ⟨g, 0, none⟩ = some (.int .i64 ((2 ^ k : Nat) : Int)) ∧ ws.cell? ⟨w.heap.size, 0, none⟩ = some (.int .i64 a) ∧ ws.cell? ⟨w.heap.size, 1, none⟩ = some (.int .i64 b) ∧ ws.cell? ⟨w.heap.size, 2, none⟩ = some (.int .i64 c) ∧ ws.cell? ⟨w.heap.size, 3, none⟩ = some (.int .i64 d)) (by kernel_rfl) SD.out.cells (fun hHeld => ?_)
  clear hw1 SC
  generalize w1.drew = wd at *
  refine wpAnyH_take (i := 0) (v := ?_) rfl (by kernel_rfl) (by kernel_rfl) (by kernel_rfl) (fun _ _ _ h => h) (Or.inl ⟨by rfl, ?_⟩) (by assumption) ?_
  rotate_left
  · (intro w hSw; (try dsimp only at hSw); first | (go_simp; done) | (go_simp; with_reducible rfl))
  simp only [Act.put, List.getElem_toArray, List.getElem_cons_zero, List.getElem_cons_succ, List.setIfInBounds_toArray, List.set_cons_zero, List.set_cons_succ]
  refine wpAnyH_take (i := 1) (v := ?_) rfl (by kernel_rfl) (by kernel_rfl) (by kernel_rfl) (fun _ _ _ h => h) (Or.inl ⟨by rfl, ?_⟩) (by assumption) ?_
  rotate_left
  · (intro w hSw; (try dsimp only at hSw); first | (go_simp; done) | (go_simp; with_reducible rfl))
  simp only [Act.put, List.getElem_toArray, List.getElem_cons_zero, List.getElem_cons_succ, List.setIfInBounds_toArray, List.set_cons_zero, List.set_cons_succ]
  refine wpAnyH_ready (rs := [2]) (by kernel_rfl) (by simp) ?_
  refine AllReadyH.cons rfl (fun K hK => ?_) AllReadyH.nil
  go_simp
  refine (CB.out _ SD.out.cells.1).mono ?_
  rintro e w3 ⟨rfl, hb3⟩
  have S3 := Lib.hid (SD.out.below hb3)
  have M3 := Lib.hid (up MD.out hb3 MD.out.size)
  refine hK.out _ _ S3.out.cells (fun hHeld2 => ?_)
  clear hK K hHeld hb3
  refine wpAnyH_ready (rs := [3]) (by kernel_rfl) (by simp) ?_
  refine AllReadyH.cons rfl (fun K hK => ?_) AllReadyH.nil
  go_simp
  refine (CI.out _).mono ?_
  rintro e w4 ⟨rfl, hb4⟩
  have S4 := Lib.hid (S3.out.below hb4)
  have M4 := Lib.hid (up M3.out hb4 M3.out.size)
  refine hK.out _ _ S4.out.cells (fun hHeld => ?_)
  clear hK K hHeld2 hb4
  simp only [dI]
  refine wpAnyH_take (i := 4) (v := ?_) rfl (by kernel_rfl) (by kernel_rfl) (by kernel_rfl) (fun _ _ _ h => h) (Or.inl ⟨by rfl, ?_⟩) (by assumption) ?_
  rotate_left
  · (intro w hSw; (try dsimp only at hSw); first | (go_simp; done) | (go_simp; with_reducible rfl))
  simp only [Act.put, List.getElem_toArray, List.getElem_cons_zero, List.getElem_cons_succ, List.setIfInBounds_toArray, List.set_cons_zero, List.set_cons_succ]
  refine wpAnyH_take (i := 5) (v := ?_) rfl (by kernel_rfl) (by kernel_rfl) (by kernel_rfl) (fun _ _ _ h => h) (Or.inl ⟨by rfl, ?_⟩) (by assumption) ?_
  rotate_left
  · (intro w hSw; (try dsimp only at hSw); first | (go_simp; done) | (go_simp; with_reducible rfl))
  simp only [Act.put, List.getElem_toArray, List.getElem_cons_zero, List.getElem_cons_succ, List.setIfInBounds_toArray, List.set_cons_zero, List.set_cons_succ]
  refine wpAnyH_take (i := 6) (v := ?_) rfl (by kernel_rfl) (by kernel_rfl) (by kernel_rfl) (fun _ _ _ h => h) (Or.inl ⟨by rfl, ?_⟩) (by assumption) ?_
  rotate_left
  · (intro w hSw; (try dsimp only at hSw); first | (go_simp; done) | (go_simp; with_reducible rfl))
  simp only [Act.put, List.getElem_toArray, List.getElem_cons_zero, List.getElem_cons_succ, List.setIfInBounds_toArray, List.set_cons_zero, List.set_cons_succ]
  refine wpAnyH_take (i := 7) (v := ?_) rfl (by kernel_rfl) (by kernel_rfl) (by kernel_rfl) (fun _ _ _ h => h) (Or.inl ⟨by rfl, ?_⟩) (by assumption) ?_
  rotate_left
  · (intro w hSw; (try dsimp only at hSw); first | (go_simp; done) | (go_simp; with_reducible rfl))
  simp only [Act.put, List.getElem_toArray, List.getElem_cons_zero, List.getElem_cons_succ, List.setIfInBounds_toArray, List.set_cons_zero, List.set_cons_succ]
  refine wpAnyH_take (i := 8) (v := ?_) rfl (by kernel_rfl) (by kernel_rfl) (by kernel_rfl) (fun _ _ _ h => h) (Or.inl ⟨by rfl, ?_⟩) (by assumption) ?_
  rotate_left
  · (intro w hSw; (try dsimp only at hSw); first | (go_simp; done) | (go_simp; with_reducible rfl))
  simp only [Act.put, List.getElem_toArray, List.getElem_cons_zero, List.getElem_cons_succ, List.setIfInBounds_toArray, List.set_cons_zero, List.set_cons_succ]
  refine wpAnyH_take (i := 9) (v := ?_) rfl (by kernel_rfl) (by kernel_rfl) (by kernel_rfl) (fun _ _ _ h => h) (Or.inl ⟨by rfl, ?_⟩) (by assumption) ?_
  rotate_left
  · (intro w hSw; (try dsimp only at hSw); first | (go_simp; done) | (go_simp; with_reducible rfl))
  simp only [Act.put, List.getElem_toArray, List.getElem_cons_zero, List.getElem_cons_succ, List.setIfInBounds_toArray, List.set_cons_zero, List.set_cons_succ]
  refine wpAnyH_take (i := 10) (v := undef) rfl (by kernel_rfl) (by kernel_rfl) (by kernel_rfl) (fun _ _ _ h => h) (Or.inr ⟨by rfl, rfl⟩) (by assumption) ?_
  simp only [Act.put, List.getElem_toArray, List.getElem_cons_zero, List.getElem_cons_succ, List.setIfInBounds_toArray, List.set_cons_zero, List.set_cons_succ]
  refine wpAnyH_take (i := 11) (v := undef) rfl (by kernel_rfl) (by kernel_rfl) (by kernel_rfl) (fun _ _ _ h => h) (Or.inr ⟨by rfl, rfl⟩) (by assumption) ?_
  simp only [Act.put, List.getElem_toArray, List.getElem_cons_zero, List.getElem_cons_succ, List.setIfInBounds_toArray, List.set_cons_zero, List.set_cons_succ]
  refine wpAnyH_take (i := 12) (v := ?_) rfl (by kernel_rfl) (by kernel_rfl) (by kernel_rfl) (fun _ _ _ h => h) (Or.inl ⟨by rfl, ?_⟩) (by assumption) ?_
  rotate_left
  · (intro w hSw; (try dsimp only at hSw); first | (go_simp; done) | (go_simp; with_reducible rfl))
  simp only [Act.put, List.getElem_toArray, List.getElem_cons_zero, List.getElem_cons_succ, List.setIfInBounds_toArray, List.set_cons_zero, List.set_cons_succ]
  refine wpAnyH_done (by kernel_rfl) ?_ _
  clear hHeld
  go_wp2_with fail
  go_ret
  exact ⟨rfl, M4.out⟩
set_option maxRecDepth 100000 in
set_option maxHeartbeats 4000000 in
theorem qset_big (g k : Nat) (q : Q) (a b c d v : Int) (w : World) (h : QAt w g k q) (hi : inB 0 0 ((2 ^ k : Nat) : Int) a b c d) (h0 : 0 ≤ v) (hn : 255 < v) :
    Calls Try.prog 28 #[.pointer (some ⟨g, 0, none⟩), (.agg #[.int .i64 a, .int .i64 b, .int .i64 c, .int .i64 d]), .int .i64 v] w fun e w' => e = .returned (.int .i64 11) ∧ Below w.heap.size w w' := by
  obtain ⟨w1, hw1⟩ : ∃ w1, w.alloc (.cells #[.int .i64 a, .int .i64 b, .int .i64 c, .int .i64 d] 42) = w1 := ⟨_, rfl⟩
  have M1 := Lib.hid (show Below w.heap.size w w1 from by rw [← hw1]; exact made w _)
  have BX := h.box
  have B1 : Blk w1 w.heap.size 42 #[.int .i64 a, .int .i64 b, .int .i64 c, .int .i64 d] := by rw [← hw1]; exact Blk.new w _ _
  have S1 := Lib.hid (S5.mk (h.below M1.out) B1)
  have SC := Lib.hid S1.out.cells
  have CB := Lib.hid (fun (W : World) (hc : W.cell? ⟨g, 0, none⟩ = some (.int .i64 ((2 ^ k : Nat) : Int))) => box_any g ((2 ^ k : Nat) : Int) W hc)
  have CI := Lib.hid (fun (W : World) => rect_in 0 0 ((2 ^ k : Nat) : Int) a b c d W BX)
  have GQ := Lib.hid h
  have dI := decide_eq_true hi
  have d1 : decide (v < 0) = false := decide_eq_false (by omega)
  have d2 : decide (255 < v) = true := decide_eq_true hn
  clear hn hi
  clear h BX B1
  go_enter Try.func28, Try.ntmps28
  go_upto_region 1 with fail
  try simp only [hw1]
  have SD := Lib.hid (show S5 w1.drew g w.heap.size k q a b c d from S1.out.drewN 1)
  have MD := Lib.hid (show Below w.heap.size w w1.drew from base.below_drewN M1.out 1)
  refine wp_region_held_drew (S := fun ws => ws.cell? ⟨g, 0, none⟩ = some (.int .i64 ((2 ^ k : Nat) : Int)) ∧ ws.cell? ⟨w.heap.size, 0, none⟩ = some (.int .i64 a) ∧ ws.cell? ⟨w.heap.size, 1, none⟩ = some (.int .i64 b) ∧ ws.cell? ⟨w.heap.size, 2, none⟩ = some (.int .i64 c) ∧ ws.cell? ⟨w.heap.size, 3, none⟩ = some (.int .i64 d)) (by kernel_rfl) SD.out.cells (fun hHeld => ?_)
  clear hw1 SC
  generalize w1.drew = wd at *
  refine wpAnyH_take (i := 0) (v := ?_) rfl (by kernel_rfl) (by kernel_rfl) (by kernel_rfl) (fun _ _ _ h => h) (Or.inl ⟨by rfl, ?_⟩) (by assumption) ?_
  rotate_left
  · (intro w hSw; (try dsimp only at hSw); first | (go_simp; done) | (go_simp; with_reducible rfl))
  simp only [Act.put, List.getElem_toArray, List.getElem_cons_zero, List.getElem_cons_succ, List.setIfInBounds_toArray, List.set_cons_zero, List.set_cons_succ]
  refine wpAnyH_take (i := 1) (v := ?_) rfl (by kernel_rfl) (by kernel_rfl) (by kernel_rfl) (fun _ _ _ h => h) (Or.inl ⟨by rfl, ?_⟩) (by assumption) ?_
  rotate_left
  · (intro w hSw; (try dsimp only at hSw); first | (go_simp; done) | (go_simp; with_reducible rfl))
  simp only [Act.put, List.getElem_toArray, List.getElem_cons_zero, List.getElem_cons_succ, List.setIfInBounds_toArray, List.set_cons_zero, List.set_cons_succ]
  refine wpAnyH_ready (rs := [2]) (by kernel_rfl) (by simp) ?_
  refine AllReadyH.cons rfl (fun K hK => ?_) AllReadyH.nil
  go_simp
  refine (CB.out _ SD.out.cells.1).mono ?_
  rintro e w3 ⟨rfl, hb3⟩
  have S3 := Lib.hid (SD.out.below hb3)
  have M3 := Lib.hid (up MD.out hb3 MD.out.size)
  refine hK.out _ _ S3.out.cells (fun hHeld2 => ?_)
  clear hK K hHeld hb3
  refine wpAnyH_ready (rs := [3]) (by kernel_rfl) (by simp) ?_
  refine AllReadyH.cons rfl (fun K hK => ?_) AllReadyH.nil
  go_simp
  refine (CI.out _).mono ?_
  rintro e w4 ⟨rfl, hb4⟩
  have S4 := Lib.hid (S3.out.below hb4)
  have M4 := Lib.hid (up M3.out hb4 M3.out.size)
  refine hK.out _ _ S4.out.cells (fun hHeld => ?_)
  clear hK K hHeld2 hb4
  simp only [dI]
  refine wpAnyH_take (i := 4) (v := ?_) rfl (by kernel_rfl) (by kernel_rfl) (by kernel_rfl) (fun _ _ _ h => h) (Or.inl ⟨by rfl, ?_⟩) (by assumption) ?_
  rotate_left
  · (intro w hSw; (try dsimp only at hSw); first | (go_simp; done) | (go_simp; with_reducible rfl))
  simp only [Act.put, List.getElem_toArray, List.getElem_cons_zero, List.getElem_cons_succ, List.setIfInBounds_toArray, List.set_cons_zero, List.set_cons_succ]
  refine wpAnyH_take (i := 5) (v := ?_) rfl (by kernel_rfl) (by kernel_rfl) (by kernel_rfl) (fun _ _ _ h => h) (Or.inl ⟨by rfl, ?_⟩) (by assumption) ?_
  rotate_left
  · (intro w hSw; (try dsimp only at hSw); first | (go_simp; done) | (go_simp; with_reducible rfl))
  simp only [Act.put, List.getElem_toArray, List.getElem_cons_zero, List.getElem_cons_succ, List.setIfInBounds_toArray, List.set_cons_zero, List.set_cons_succ]
  refine wpAnyH_take (i := 6) (v := ?_) rfl (by kernel_rfl) (by kernel_rfl) (by kernel_rfl) (fun _ _ _ h => h) (Or.inl ⟨by rfl, ?_⟩) (by assumption) ?_
  rotate_left
  · (intro w hSw; (try dsimp only at hSw); first | (go_simp; done) | (go_simp; with_reducible rfl))
  simp only [Act.put, List.getElem_toArray, List.getElem_cons_zero, List.getElem_cons_succ, List.setIfInBounds_toArray, List.set_cons_zero, List.set_cons_succ]
  refine wpAnyH_take (i := 7) (v := ?_) rfl (by kernel_rfl) (by kernel_rfl) (by kernel_rfl) (fun _ _ _ h => h) (Or.inl ⟨by rfl, ?_⟩) (by assumption) ?_
  rotate_left
  · (intro w hSw; (try dsimp only at hSw); first | (go_simp; done) | (go_simp; with_reducible rfl))
  simp only [Act.put, List.getElem_toArray, List.getElem_cons_zero, List.getElem_cons_succ, List.setIfInBounds_toArray, List.set_cons_zero, List.set_cons_succ]
  refine wpAnyH_take (i := 8) (v := ?_) rfl (by kernel_rfl) (by kernel_rfl) (by kernel_rfl) (fun _ _ _ h => h) (Or.inl ⟨by rfl, ?_⟩) (by assumption) ?_
  rotate_left
  · (intro w hSw; (try dsimp only at hSw); first | (go_simp; done) | (go_simp; with_reducible rfl))
  simp only [Act.put, List.getElem_toArray, List.getElem_cons_zero, List.getElem_cons_succ, List.setIfInBounds_toArray, List.set_cons_zero, List.set_cons_succ]
  refine wpAnyH_take (i := 9) (v := ?_) rfl (by kernel_rfl) (by kernel_rfl) (by kernel_rfl) (fun _ _ _ h => h) (Or.inl ⟨by rfl, ?_⟩) (by assumption) ?_
  rotate_left
  · (intro w hSw; (try dsimp only at hSw); first | (go_simp; done) | (go_simp; with_reducible rfl))
  simp only [Act.put, List.getElem_toArray, List.getElem_cons_zero, List.getElem_cons_succ, List.setIfInBounds_toArray, List.set_cons_zero, List.set_cons_succ]
  refine wpAnyH_take (i := 10) (v := ?_) rfl (by kernel_rfl) (by kernel_rfl) (by kernel_rfl) (fun _ _ _ h => h) (Or.inl ⟨by rfl, ?_⟩) (by assumption) ?_
  rotate_left
  · (intro w hSw; (try dsimp only at hSw); first | (go_simp; done) | (go_simp; with_reducible rfl))
  simp only [Act.put, List.getElem_toArray, List.getElem_cons_zero, List.getElem_cons_succ, List.setIfInBounds_toArray, List.set_cons_zero, List.set_cons_succ]
  refine wpAnyH_take (i := 11) (v := ?_) rfl (by kernel_rfl) (by kernel_rfl) (by kernel_rfl) (fun _ _ _ h => h) (Or.inl ⟨by rfl, ?_⟩) (by assumption) ?_
  rotate_left
  · (intro w hSw; (try dsimp only at hSw); first | (go_simp; done) | (go_simp; with_reducible rfl))
  simp only [Act.put, List.getElem_toArray, List.getElem_cons_zero, List.getElem_cons_succ, List.setIfInBounds_toArray, List.set_cons_zero, List.set_cons_succ]
  refine wpAnyH_take (i := 12) (v := ?_) rfl (by kernel_rfl) (by kernel_rfl) (by kernel_rfl) (fun _ _ _ h => h) (Or.inl ⟨by rfl, ?_⟩) (by assumption) ?_
  rotate_left
  · (intro w hSw; (try dsimp only at hSw); first | (go_simp; done) | (go_simp; with_reducible rfl))
  simp only [Act.put, List.getElem_toArray, List.getElem_cons_zero, List.getElem_cons_succ, List.setIfInBounds_toArray, List.set_cons_zero, List.set_cons_succ]
  refine wpAnyH_done (by kernel_rfl) ?_ _
  clear hHeld
  go_wp2_with fail
  go_ret
  exact ⟨rfl, M4.out⟩
end Go.Proofs.Ytpfnkmlfpkjkpaa.qd
