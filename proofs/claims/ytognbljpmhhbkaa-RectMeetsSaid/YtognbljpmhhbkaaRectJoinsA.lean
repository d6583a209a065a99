/-
  RectJoins, first part: the boxes of the three rectangles; what is none of them right. Conditions: as the theorems say.
-/
import Derived.Test.YtognbljpmhhbkaaRectG
import Derived.Deep.RegionHeld
namespace Go.Proofs.Ytognbljpmhhbkaa.rectJoins
open Go.ChangeShapes Go.WideShapes Go.ChangeAt Go.RowKit
open rect
open base (ret_bool ret_int made up Blk Only)
set_option linter.unusedVariables false
set_option linter.unusedSimpArgs false

def Good (w : World) (e : Ending) (w' : World) : Prop := e = .returned (.bool true) ∧ Below w.heap.size w w'

/-- three boxed rectangles stand where they stood; all older memory is as it was -/
def Bx (w : World) (gj : Nat) (x y u z a b c d p q r s : Int) (ws : World) : Prop :=
  Below w.heap.size w ws ∧ Blk ws w.heap.size 23 #[.int .i64 x, .int .i64 y, .int .i64 u, .int .i64 z] ∧ Blk ws (w.heap.size + 1) 23 #[.int .i64 a, .int .i64 b, .int .i64 c, .int .i64 d] ∧ Blk ws gj 23 #[.int .i64 p, .int .i64 q, .int .i64 r, .int .i64 s]
theorem Bx.mk {w w1 : World} {x y u z a b c d : Int} (h : Two w x y u z a b c d w1) (p q r s : Int) : Bx w w1.heap.size x y u z a b c d p q r s (w1.alloc (.cells #[.int .i64 p, .int .i64 q, .int .i64 r, .int .i64 s] 23)) :=
  ⟨h.2.2.alloc h.2.2.size _, h.1.alloc _, h.2.1.alloc _, base.Blk.new _ _ _⟩
theorem Bx.next {w ws ws' : World} {gj : Nat} {x y u z a b c d p q r s : Int} (h : Bx w gj x y u z a b c d p q r s ws) (hb : Below ws.heap.size ws ws') : Bx w gj x y u z a b c d p q r s ws' :=
  ⟨h.1.trans (hb.mono h.1.size), h.2.1.below hb h.2.1.lt, h.2.2.1.below hb h.2.2.1.lt, h.2.2.2.below hb h.2.2.2.lt⟩
theorem Bx.drew {w ws : World} {gj : Nat} {x y u z a b c d p q r s : Int} (h : Bx w gj x y u z a b c d p q r s ws) : Bx w gj x y u z a b c d p q r s ws.drew := h.next (Below.refl _ _).drew
theorem Bx.cells {w ws : World} {gj : Nat} {x y u z a b c d p q r s : Int} (h : Bx w gj x y u z a b c d p q r s ws) : (fun ws => ws.cell? ⟨w.heap.size, 0, none⟩ = some (.int .i64 x) ∧ ws.cell? ⟨w.heap.size, 1, none⟩ = some (.int .i64 y) ∧ ws.cell? ⟨w.heap.size, 2, none⟩ = some (.int .i64 u) ∧ ws.cell? ⟨w.heap.size, 3, none⟩ = some (.int .i64 z) ∧ ws.cell? ⟨w.heap.size + 1, 0, none⟩ = some (.int .i64 a) ∧ ws.cell? ⟨w.heap.size + 1, 1, none⟩ = some (.int .i64 b) ∧ ws.cell? ⟨w.heap.size + 1, 2, none⟩ = some (.int .i64 c) ∧ ws.cell? ⟨w.heap.size + 1, 3, none⟩ = some (.int .i64 d) ∧ ws.cell? ⟨gj, 0, none⟩ = some (.int .i64 p) ∧ ws.cell? ⟨gj, 1, none⟩ = some (.int .i64 q) ∧ ws.cell? ⟨gj, 2, none⟩ = some (.int .i64 r) ∧ ws.cell? ⟨gj, 3, none⟩ = some (.int .i64 s)) ws :=
  ⟨h.2.1.cell 0, h.2.1.cell 1, h.2.1.cell 2, h.2.1.cell 3, h.2.2.1.cell 0, h.2.2.1.cell 1, h.2.2.1.cell 2, h.2.2.1.cell 3, h.2.2.2.cell 0, h.2.2.2.cell 1, h.2.2.2.cell 2, h.2.2.2.cell 3⟩

set_option maxRecDepth 100000 in
set_option maxHeartbeats 2000000 in
theorem walk_none (x y u z a b c d : Int) (w : World) (b1 : -9223372036854775808 ≤ x) (b2 : -9223372036854775808 ≤ a) (h1 : rightB x y u z = false) (h2 : rightB a b c d = false) :
    Calls Try.prog 5 #[(.agg #[.int .i64 x, .int .i64 y, .int .i64 u, .int .i64 z]), (.agg #[.int .i64 a, .int .i64 b, .int .i64 c, .int .i64 d])] w (Good w) := by
  have J := Lib.hid (fun w => join_none x y u z a b c d w h1 h2)
  have G := Lib.hid (fun w => growth_is x y u z a b c d 0 0 0 0 0 0 w (fun w => join_none x y u z a b c d w h1 h2) (fun w => area_no 0 0 0 0 w (by decide)) (fun w => area_no x y u z w h1) (by omega) (by omega))
  have T0 := Two.mk w x y u z a b c d
  have RA := Lib.hid (fun w => rright_any x y u z b1 w)
  have RB := Lib.hid (fun w => rright_any a b c d b2 w)
  rw [h1] at RA
  rw [h2] at RB
  clear h1 h2 b1 b2
  go_enter Try.func5, Try.ntmps5
  go_wp2_with fail
  refine (J.out _).mono ?_
  rintro e w1 ⟨rfl, hb1⟩
  have T := T0.nextB hb1 (by simp)
  have X := Lib.hid (Bx.mk T 0 0 0 0).drew
  clear T0 hb1 J T
  go_wp2_with fail
  refine wp_region_held_drew (S := (fun ws => ws.cell? ⟨w.heap.size, 0, none⟩ = some (.int .i64 x) ∧ ws.cell? ⟨w.heap.size, 1, none⟩ = some (.int .i64 y) ∧ ws.cell? ⟨w.heap.size, 2, none⟩ = some (.int .i64 u) ∧ ws.cell? ⟨w.heap.size, 3, none⟩ = some (.int .i64 z) ∧ ws.cell? ⟨w.heap.size + 1, 0, none⟩ = some (.int .i64 a) ∧ ws.cell? ⟨w.heap.size + 1, 1, none⟩ = some (.int .i64 b) ∧ ws.cell? ⟨w.heap.size + 1, 2, none⟩ = some (.int .i64 c) ∧ ws.cell? ⟨w.heap.size + 1, 3, none⟩ = some (.int .i64 d) ∧ ws.cell? ⟨w1.heap.size, 0, none⟩ = some (.int .i64 0) ∧ ws.cell? ⟨w1.heap.size, 1, none⟩ = some (.int .i64 0) ∧ ws.cell? ⟨w1.heap.size, 2, none⟩ = some (.int .i64 0) ∧ ws.cell? ⟨w1.heap.size, 3, none⟩ = some (.int .i64 0))) (by kernel_rfl) X.out.cells (fun hHeld => ?_)
  refine wpAnyH_take (i := 0) (v := ?_) rfl (by kernel_rfl) (by kernel_rfl) (by kernel_rfl) (fun _ _ _ h => h) (Or.inl ⟨by rfl, ?_⟩) (by assumption) ?_
  rotate_left
  · (intro w hSw; (try dsimp only at hSw); first | (go_simp; done) | (go_simp; with_reducible rfl))
  simp only [Act.put, List.getElem_toArray, List.getElem_cons_zero, List.getElem_cons_succ, List.setIfInBounds_toArray, List.set_cons_zero, List.set_cons_succ]
  refine wpAnyH_take (i := 3) (v := ?_) rfl (by kernel_rfl) (by kernel_rfl) (by kernel_rfl) (fun _ _ _ h => h) (Or.inl ⟨by rfl, ?_⟩) (by assumption) ?_
  rotate_left
  · (intro w hSw; (try dsimp only at hSw); first | (go_simp; done) | (go_simp; with_reducible rfl))
  simp only [Act.put, List.getElem_toArray, List.getElem_cons_zero, List.getElem_cons_succ, List.setIfInBounds_toArray, List.set_cons_zero, List.set_cons_succ]
  refine wpAnyH_ready (rs := [1]) (by kernel_rfl) (by simp) ?_
  refine AllReadyH.cons rfl (fun K hK => ?_) AllReadyH.nil
  go_simp
  go_wp2_with (go_at_call 8; refine (ref_any _ _ _ _ _).mono ?_; rintro e w2 ⟨rfl, hb⟩)
  have X := Lib.hid (X.out.next hb)
  refine hK.out _ _ X.out.cells (fun hHeld2 => ?_)
  clear hK K hHeld hb
  have hHeld := hHeld2
  clear hHeld2
  refine wpAnyH_ready (rs := [2]) (by kernel_rfl) (by simp) ?_
  refine AllReadyH.cons rfl (fun K hK => ?_) AllReadyH.nil
  go_simp
  go_wp2_with (go_at_call 7; refine (RA.out _).mono ?_; rintro e w3 ⟨rfl, hb⟩)
  have X := Lib.hid (X.out.next hb)
  refine hK.out _ _ X.out.cells (fun hHeld2 => ?_)
  clear hK K hHeld hb
  have hHeld := hHeld2
  clear hHeld2
  refine wpAnyH_ready (rs := [4]) (by kernel_rfl) (by simp) ?_
  refine AllReadyH.cons rfl (fun K hK => ?_) AllReadyH.nil
  go_simp
  go_wp2_with (go_at_call 8; refine (ref_any _ _ _ _ _).mono ?_; rintro e w4 ⟨rfl, hb⟩)
  have X := Lib.hid (X.out.next hb)
  refine hK.out _ _ X.out.cells (fun hHeld2 => ?_)
  clear hK K hHeld hb
  have hHeld := hHeld2
  clear hHeld2
  refine wpAnyH_ready (rs := [5]) (by kernel_rfl) (by simp) ?_
  refine AllReadyH.cons rfl (fun K hK => ?_) AllReadyH.nil
  go_simp
  go_wp2_with (go_at_call 7; refine (RB.out _).mono ?_; rintro e w5 ⟨rfl, hb⟩)
  have X := Lib.hid (X.out.next hb)
  refine hK.out _ _ X.out.cells (fun hHeld2 => ?_)
  clear hK K hHeld hb
  have hHeld := hHeld2
  clear hHeld2
  refine wpAnyH_take (i := 6) (v := ?_) rfl (by kernel_rfl) (by kernel_rfl) (by kernel_rfl) (fun _ _ _ h => h) (Or.inl ⟨by rfl, ?_⟩) (by assumption) ?_
  rotate_left
  · (intro w hSw; (try dsimp only at hSw); first | (go_simp; done) | (go_simp; with_reducible rfl))
  simp only [Act.put, List.getElem_toArray, List.getElem_cons_zero, List.getElem_cons_succ, List.setIfInBounds_toArray, List.set_cons_zero, List.set_cons_succ]
  refine wpAnyH_take (i := 7) (v := ?_) rfl (by kernel_rfl) (by kernel_rfl) (by kernel_rfl) (fun _ _ _ h => h) (Or.inl ⟨by rfl, ?_⟩) (by assumption) ?_
  rotate_left
  · (intro w hSw; (try dsimp only at hSw); first | (go_simp; done) | (go_simp; with_reducible rfl))
  simp only [Act.put, List.getElem_toArray, List.getElem_cons_zero, List.getElem_cons_succ, List.setIfInBounds_toArray, List.set_cons_zero, List.set_cons_succ]
  refine wpAnyH_done (by kernel_rfl) ?_ _
  clear hHeld RA RB
  obtain ⟨k0, k1, k2, k3, k4, k5, k6, k7, k8, k9, k10, k11⟩ := X.out.cells
  have hun : undef = Value.tuple #[] := rfl
  go_wp2_with fail
  refine (G.out _).mono ?_
  rintro e w6 ⟨rfl, hb⟩
  clear k0 k1 k2 k3 k4 k5 k6 k7 k8 k9 k10 k11
  have X := Lib.hid (X.out.next hb)
  obtain ⟨k0, k1, k2, k3, k4, k5, k6, k7, k8, k9, k10, k11⟩ := X.out.cells
  clear hb
  go_wp2_with (go_at_call 14; refine (awake_any _).mono ?_; rintro e w7 ⟨rfl, hb7⟩)
  go_ret
  exact ⟨rfl, (X.out.next hb7).1⟩

set_option maxRecDepth 100000 in
set_option maxHeartbeats 2000000 in
theorem walk_second (x y u z a b c d : Int) (w : World) (b1 : -9223372036854775808 ≤ x) (b2 : -9223372036854775808 ≤ a) (h1 : rightB x y u z = false) (h2 : rightB a b c d = true) :
    Calls Try.prog 5 #[(.agg #[.int .i64 x, .int .i64 y, .int .i64 u, .int .i64 z]), (.agg #[.int .i64 a, .int .i64 b, .int .i64 c, .int .i64 d])] w (Good w) := by
  have J := Lib.hid (fun w => join_second x y u z a b c d w h1 h2)
  obtain ⟨⟨z1, z2, z3, z4⟩, z5, z6, z7, z8⟩ := right_yes h2
  have hm : 0 ≤ c * d ∧ c * d ≤ 256 * 256 := ⟨Int.mul_nonneg (by omega) (by omega), Int.mul_le_mul (by omega) (by omega) (by omega) (by omega)⟩
  have hwm : IntKind.i64.wrap (c * d) = c * d := IntWalk.i64_in _ (by omega)
  have G := Lib.hid (fun w => growth_is x y u z a b c d a b c d (c * d) 0 w (fun w => join_second x y u z a b c d w h1 h2) (fun w => area_yes a b c d w h2) (fun w => area_no x y u z w h1) (by omega) (by omega))
  rw [Int.sub_zero] at G
  clear z1 z2 z3 z4 z5 z6 z7 z8 hm
  have T0 := Two.mk w x y u z a b c d
  have RA := Lib.hid (fun w => rright_any x y u z b1 w)
  have RB := Lib.hid (fun w => rright_any a b c d b2 w)
  rw [h1] at RA
  rw [h2] at RB
  clear h1 h2 b1 b2
  go_enter Try.func5, Try.ntmps5
  go_wp2_with fail
  refine (J.out _).mono ?_
  rintro e w1 ⟨rfl, hb1⟩
  have T := T0.nextB hb1 (by simp)
  have X := Lib.hid (Bx.mk T a b c d).drew
  clear T0 hb1 J T
  go_wp2_with fail
  refine wp_region_held_drew (S := (fun ws => ws.cell? ⟨w.heap.size, 0, none⟩ = some (.int .i64 x) ∧ ws.cell? ⟨w.heap.size, 1, none⟩ = some (.int .i64 y) ∧ ws.cell? ⟨w.heap.size, 2, none⟩ = some (.int .i64 u) ∧ ws.cell? ⟨w.heap.size, 3, none⟩ = some (.int .i64 z) ∧ ws.cell? ⟨w.heap.size + 1, 0, none⟩ = some (.int .i64 a) ∧ ws.cell? ⟨w.heap.size + 1, 1, none⟩ = some (.int .i64 b) ∧ ws.cell? ⟨w.heap.size + 1, 2, none⟩ = some (.int .i64 c) ∧ ws.cell? ⟨w.heap.size + 1, 3, none⟩ = some (.int .i64 d) ∧ ws.cell? ⟨w1.heap.size, 0, none⟩ = some (.int .i64 a) ∧ ws.cell? ⟨w1.heap.size, 1, none⟩ = some (.int .i64 b) ∧ ws.cell? ⟨w1.heap.size, 2, none⟩ = some (.int .i64 c) ∧ ws.cell? ⟨w1.heap.size, 3, none⟩ = some (.int .i64 d))) (by kernel_rfl) X.out.cells (fun hHeld => ?_)
  refine wpAnyH_take (i := 0) (v := ?_) rfl (by kernel_rfl) (by kernel_rfl) (by kernel_rfl) (fun _ _ _ h => h) (Or.inl ⟨by rfl, ?_⟩) (by assumption) ?_
  rotate_left
  · (intro w hSw; (try dsimp only at hSw); first | (go_simp; done) | (go_simp; with_reducible rfl))
  simp only [Act.put, List.getElem_toArray, List.getElem_cons_zero, List.getElem_cons_succ, List.setIfInBounds_toArray, List.set_cons_zero, List.set_cons_succ]
  refine wpAnyH_take (i := 3) (v := ?_) rfl (by kernel_rfl) (by kernel_rfl) (by kernel_rfl) (fun _ _ _ h => h) (Or.inl ⟨by rfl, ?_⟩) (by assumption) ?_
  rotate_left
  · (intro w hSw; (try dsimp only at hSw); first | (go_simp; done) | (go_simp; with_reducible rfl))
  simp only [Act.put, List.getElem_toArray, List.getElem_cons_zero, List.getElem_cons_succ, List.setIfInBounds_toArray, List.set_cons_zero, List.set_cons_succ]
  refine wpAnyH_ready (rs := [1]) (by kernel_rfl) (by simp) ?_
  refine AllReadyH.cons rfl (fun K hK => ?_) AllReadyH.nil
  go_simp
  go_wp2_with (go_at_call 8; refine (ref_any _ _ _ _ _).mono ?_; rintro e w2 ⟨rfl, hb⟩)
  have X := Lib.hid (X.out.next hb)
  refine hK.out _ _ X.out.cells (fun hHeld2 => ?_)
  clear hK K hHeld hb
  have hHeld := hHeld2
  clear hHeld2
  refine wpAnyH_ready (rs := [2]) (by kernel_rfl) (by simp) ?_
  refine AllReadyH.cons rfl (fun K hK => ?_) AllReadyH.nil
  go_simp
  go_wp2_with (go_at_call 7; refine (RA.out _).mono ?_; rintro e w3 ⟨rfl, hb⟩)
  have X := Lib.hid (X.out.next hb)
  refine hK.out _ _ X.out.cells (fun hHeld2 => ?_)
  clear hK K hHeld hb
  have hHeld := hHeld2
  clear hHeld2
  refine wpAnyH_ready (rs := [4]) (by kernel_rfl) (by simp) ?_
  refine AllReadyH.cons rfl (fun K hK => ?_) AllReadyH.nil
  go_simp
  go_wp2_with (go_at_call 8; refine (ref_any _ _ _ _ _).mono ?_; rintro e w4 ⟨rfl, hb⟩)
  have X := Lib.hid (X.out.next hb)
  refine hK.out _ _ X.out.cells (fun hHeld2 => ?_)
  clear hK K hHeld hb
  have hHeld := hHeld2
  clear hHeld2
  refine wpAnyH_ready (rs := [5]) (by kernel_rfl) (by simp) ?_
  refine AllReadyH.cons rfl (fun K hK => ?_) AllReadyH.nil
  go_simp
  go_wp2_with (go_at_call 7; refine (RB.out _).mono ?_; rintro e w5 ⟨rfl, hb⟩)
  have X := Lib.hid (X.out.next hb)
  refine hK.out _ _ X.out.cells (fun hHeld2 => ?_)
  clear hK K hHeld hb
  have hHeld := hHeld2
  clear hHeld2
  refine wpAnyH_take (i := 6) (v := ?_) rfl (by kernel_rfl) (by kernel_rfl) (by kernel_rfl) (fun _ _ _ h => h) (Or.inl ⟨by rfl, ?_⟩) (by assumption) ?_
  rotate_left
  · (intro w hSw; (try dsimp only at hSw); first | (go_simp; done) | (go_simp; with_reducible rfl))
  simp only [Act.put, List.getElem_toArray, List.getElem_cons_zero, List.getElem_cons_succ, List.setIfInBounds_toArray, List.set_cons_zero, List.set_cons_succ]
  refine wpAnyH_take (i := 7) (v := ?_) rfl (by kernel_rfl) (by kernel_rfl) (by kernel_rfl) (fun _ _ _ h => h) (Or.inl ⟨by rfl, ?_⟩) (by assumption) ?_
  rotate_left
  · (intro w hSw; (try dsimp only at hSw); first | (go_simp; done) | (go_simp; with_reducible rfl))
  simp only [Act.put, List.getElem_toArray, List.getElem_cons_zero, List.getElem_cons_succ, List.setIfInBounds_toArray, List.set_cons_zero, List.set_cons_succ]
  refine wpAnyH_done (by kernel_rfl) ?_ _
  clear RA RB
  go_wp2_with fail
  refine wp_region_held_drew (S := (fun ws => ws.cell? ⟨w.heap.size, 0, none⟩ = some (.int .i64 x) ∧ ws.cell? ⟨w.heap.size, 1, none⟩ = some (.int .i64 y) ∧ ws.cell? ⟨w.heap.size, 2, none⟩ = some (.int .i64 u) ∧ ws.cell? ⟨w.heap.size, 3, none⟩ = some (.int .i64 z) ∧ ws.cell? ⟨w.heap.size + 1, 0, none⟩ = some (.int .i64 a) ∧ ws.cell? ⟨w.heap.size + 1, 1, none⟩ = some (.int .i64 b) ∧ ws.cell? ⟨w.heap.size + 1, 2, none⟩ = some (.int .i64 c) ∧ ws.cell? ⟨w.heap.size + 1, 3, none⟩ = some (.int .i64 d) ∧ ws.cell? ⟨w1.heap.size, 0, none⟩ = some (.int .i64 a) ∧ ws.cell? ⟨w1.heap.size, 1, none⟩ = some (.int .i64 b) ∧ ws.cell? ⟨w1.heap.size, 2, none⟩ = some (.int .i64 c) ∧ ws.cell? ⟨w1.heap.size, 3, none⟩ = some (.int .i64 d))) (by kernel_rfl) X.out.drew.cells (fun hHeld => ?_)
  have X := Lib.hid X.out.drew
  refine wpAnyH_take (i := 0) (v := ?_) rfl (by kernel_rfl) (by kernel_rfl) (by kernel_rfl) (fun _ _ _ h => h) (Or.inl ⟨by rfl, ?_⟩) (by assumption) ?_
  rotate_left
  · (intro w hSw; (try dsimp only at hSw); first | (go_simp; done) | (go_simp; with_reducible rfl))
  simp only [Act.put, List.getElem_toArray, List.getElem_cons_zero, List.getElem_cons_succ, List.setIfInBounds_toArray, List.set_cons_zero, List.set_cons_succ]
  refine wpAnyH_take (i := 1) (v := ?_) rfl (by kernel_rfl) (by kernel_rfl) (by kernel_rfl) (fun _ _ _ h => h) (Or.inl ⟨by rfl, ?_⟩) (by assumption) ?_
  rotate_left
  · (intro w hSw; (try dsimp only at hSw); first | (go_simp; done) | (go_simp; with_reducible rfl))
  simp only [Act.put, List.getElem_toArray, List.getElem_cons_zero, List.getElem_cons_succ, List.setIfInBounds_toArray, List.set_cons_zero, List.set_cons_succ]
  refine wpAnyH_take (i := 2) (v := ?_) rfl (by kernel_rfl) (by kernel_rfl) (by kernel_rfl) (fun _ _ _ h => h) (Or.inl ⟨by rfl, ?_⟩) (by assumption) ?_
  rotate_left
  · (intro w hSw; (try dsimp only at hSw); first | (go_simp; done) | (go_simp; with_reducible rfl))
  simp only [Act.put, List.getElem_toArray, List.getElem_cons_zero, List.getElem_cons_succ, List.setIfInBounds_toArray, List.set_cons_zero, List.set_cons_succ]
  refine wpAnyH_take (i := 3) (v := ?_) rfl (by kernel_rfl) (by kernel_rfl) (by kernel_rfl) (fun _ _ _ h => h) (Or.inl ⟨by rfl, ?_⟩) (by assumption) ?_
  rotate_left
  · (intro w hSw; (try dsimp only at hSw); first | (go_simp; done) | (go_simp; with_reducible rfl))
  simp only [Act.put, List.getElem_toArray, List.getElem_cons_zero, List.getElem_cons_succ, List.setIfInBounds_toArray, List.set_cons_zero, List.set_cons_succ]
  refine wpAnyH_take (i := 4) (v := ?_) rfl (by kernel_rfl) (by kernel_rfl) (by kernel_rfl) (fun _ _ _ h => h) (Or.inl ⟨by rfl, ?_⟩) (by assumption) ?_
  rotate_left
  · (intro w hSw; (try dsimp only at hSw); first | (go_simp; done) | (go_simp; with_reducible rfl))
  simp only [Act.put, List.getElem_toArray, List.getElem_cons_zero, List.getElem_cons_succ, List.setIfInBounds_toArray, List.set_cons_zero, List.set_cons_succ]
  refine wpAnyH_take (i := 5) (v := ?_) rfl (by kernel_rfl) (by kernel_rfl) (by kernel_rfl) (fun _ _ _ h => h) (Or.inl ⟨by rfl, ?_⟩) (by assumption) ?_
  rotate_left
  · (intro w hSw; (try dsimp only at hSw); first | (go_simp; done) | (go_simp; with_reducible rfl))
  simp only [Act.put, List.getElem_toArray, List.getElem_cons_zero, List.getElem_cons_succ, List.setIfInBounds_toArray, List.set_cons_zero, List.set_cons_succ]
  refine wpAnyH_take (i := 7) (v := ?_) rfl (by kernel_rfl) (by kernel_rfl) (by kernel_rfl) (fun _ _ _ h => h) (Or.inl ⟨by rfl, ?_⟩) (by assumption) ?_
  rotate_left
  · (intro w hSw; (try dsimp only at hSw); first | (go_simp; done) | (go_simp; with_reducible rfl))
  simp only [Act.put, List.getElem_toArray, List.getElem_cons_zero, List.getElem_cons_succ, List.setIfInBounds_toArray, List.set_cons_zero, List.set_cons_succ]
  refine wpAnyH_take (i := 8) (v := ?_) rfl (by kernel_rfl) (by kernel_rfl) (by kernel_rfl) (fun _ _ _ h => h) (Or.inl ⟨by rfl, ?_⟩) (by assumption) ?_
  rotate_left
  · (intro w hSw; (try dsimp only at hSw); first | (go_simp; done) | (go_simp; with_reducible rfl))
  simp only [Act.put, List.getElem_toArray, List.getElem_cons_zero, List.getElem_cons_succ, List.setIfInBounds_toArray, List.set_cons_zero, List.set_cons_succ]
  refine wpAnyH_take (i := 9) (v := ?_) rfl (by kernel_rfl) (by kernel_rfl) (by kernel_rfl) (fun _ _ _ h => h) (Or.inl ⟨by rfl, ?_⟩) (by assumption) ?_
  rotate_left
  · (intro w hSw; (try dsimp only at hSw); first | (go_simp; done) | (go_simp; with_reducible rfl))
  simp only [Act.put, List.getElem_toArray, List.getElem_cons_zero, List.getElem_cons_succ, List.setIfInBounds_toArray, List.set_cons_zero, List.set_cons_succ]
  refine wpAnyH_take (i := 10) (v := ?_) rfl (by kernel_rfl) (by kernel_rfl) (by kernel_rfl) (fun _ _ _ h => h) (Or.inl ⟨by rfl, ?_⟩) (by assumption) ?_
  rotate_left
  · (intro w hSw; (try dsimp only at hSw); first | (go_simp; done) | (go_simp; with_reducible rfl))
  simp only [Act.put, List.getElem_toArray, List.getElem_cons_zero, List.getElem_cons_succ, List.setIfInBounds_toArray, List.set_cons_zero, List.set_cons_succ]
  refine wpAnyH_take (i := 11) (v := ?_) rfl (by kernel_rfl) (by kernel_rfl) (by kernel_rfl) (fun _ _ _ h => h) (Or.inl ⟨by rfl, ?_⟩) (by assumption) ?_
  rotate_left
  · (intro w hSw; (try dsimp only at hSw); first | (go_simp; done) | (go_simp; with_reducible rfl))
  simp only [Act.put, List.getElem_toArray, List.getElem_cons_zero, List.getElem_cons_succ, List.setIfInBounds_toArray, List.set_cons_zero, List.set_cons_succ]
  refine wpAnyH_ready (rs := [6]) (by kernel_rfl) (by simp) ?_
  refine AllReadyH.cons rfl (fun K hK => ?_) AllReadyH.nil
  go_simp
  go_wp2_with (go_at_call 23; refine (G.out _).mono ?_; rintro e w6 ⟨rfl, hb⟩)
  have X := Lib.hid (X.out.next hb)
  refine hK.out _ _ X.out.cells (fun hHeld2 => ?_)
  clear hK K hHeld hb
  have hHeld := hHeld2
  clear hHeld2
  refine wpAnyH_take (i := 12) (v := ?_) rfl (by kernel_rfl) (by kernel_rfl) (by kernel_rfl) (fun _ _ _ h => h) (Or.inl ⟨by rfl, ?_⟩) (by assumption) ?_
  rotate_left
  · (intro w hSw; (try dsimp only at hSw); first | (go_simp; done) | (go_simp; with_reducible rfl))
  simp only [Act.put, List.getElem_toArray, List.getElem_cons_zero, List.getElem_cons_succ, List.setIfInBounds_toArray, List.set_cons_zero, List.set_cons_succ]
  refine wpAnyH_take (i := 13) (v := ?_) rfl (by kernel_rfl) (by kernel_rfl) (by kernel_rfl) (fun _ _ _ h => h) (Or.inl ⟨by rfl, ?_⟩) (by assumption) ?_
  rotate_left
  · (intro w hSw; (try dsimp only at hSw); first | (go_simp; done) | (go_simp; with_reducible rfl))
  simp only [Act.put, List.getElem_toArray, List.getElem_cons_zero, List.getElem_cons_succ, List.setIfInBounds_toArray, List.set_cons_zero, List.set_cons_succ]
  refine wpAnyH_take (i := 14) (v := ?_) rfl (by kernel_rfl) (by kernel_rfl) (by kernel_rfl) (fun _ _ _ h => h) (Or.inl ⟨by rfl, ?_⟩) (by assumption) ?_
  rotate_left
  · (intro w hSw; (try dsimp only at hSw); first | (go_simp; done) | (go_simp; with_reducible rfl))
  simp only [Act.put, List.getElem_toArray, List.getElem_cons_zero, List.getElem_cons_succ, List.setIfInBounds_toArray, List.set_cons_zero, List.set_cons_succ]
  refine wpAnyH_ready (rs := [15]) (by kernel_rfl) (by simp) ?_
  refine AllReadyH.cons rfl (fun K hK => ?_) AllReadyH.nil
  go_simp
  go_wp2_with (go_at_call 14; refine (awake_any _).mono ?_; rintro e w7 ⟨rfl, hb⟩)
  have X := Lib.hid (X.out.next hb)
  refine hK.out _ _ X.out.cells (fun hHeld2 => ?_)
  clear hK K hHeld hb
  have hHeld := hHeld2
  clear hHeld2
  refine wpAnyH_take (i := 16) (v := ?_) rfl (by kernel_rfl) (by kernel_rfl) (by kernel_rfl) (fun _ _ _ h => h) (Or.inl ⟨by rfl, ?_⟩) (by assumption) ?_
  rotate_left
  · (intro w hSw; (try dsimp only at hSw); first | (go_simp; done) | (go_simp; with_reducible rfl))
  simp only [Act.put, List.getElem_toArray, List.getElem_cons_zero, List.getElem_cons_succ, List.setIfInBounds_toArray, List.set_cons_zero, List.set_cons_succ]
  refine wpAnyH_take (i := 17) (v := ?_) rfl (by kernel_rfl) (by kernel_rfl) (by kernel_rfl) (fun _ _ _ h => h) (Or.inl ⟨by rfl, ?_⟩) (by assumption) ?_
  rotate_left
  · (intro w hSw; (try dsimp only at hSw); first | (go_simp; done) | (go_simp; with_reducible rfl))
  simp only [Act.put, List.getElem_toArray, List.getElem_cons_zero, List.getElem_cons_succ, List.setIfInBounds_toArray, List.set_cons_zero, List.set_cons_succ]
  refine wpAnyH_done (by kernel_rfl) ?_ _
  go_wp2
  go_ret
  exact ⟨rfl, X.out.1⟩

set_option maxRecDepth 100000 in
set_option maxHeartbeats 2000000 in
theorem walk_first (x y u z a b c d : Int) (w : World) (b1 : -9223372036854775808 ≤ x) (b2 : -9223372036854775808 ≤ a) (h1 : rightB x y u z = true) (h2 : rightB a b c d = false) :
    Calls Try.prog 5 #[(.agg #[.int .i64 x, .int .i64 y, .int .i64 u, .int .i64 z]), (.agg #[.int .i64 a, .int .i64 b, .int .i64 c, .int .i64 d])] w (Good w) := by
  have J := Lib.hid (fun w => join_first x y u z a b c d w h1 h2)
  obtain ⟨⟨z1, z2, z3, z4⟩, z5, z6, z7, z8⟩ := right_yes h1
  have hm : 0 ≤ u * z ∧ u * z ≤ 256 * 256 := ⟨Int.mul_nonneg (by omega) (by omega), Int.mul_le_mul (by omega) (by omega) (by omega) (by omega)⟩
  have G := Lib.hid (fun w => growth_is x y u z a b c d x y u z (u * z) (u * z) w (fun w => join_first x y u z a b c d w h1 h2) (fun w => area_yes x y u z w h1) (fun w => area_yes x y u z w h1) (by omega) (by omega))
  rw [Int.sub_self] at G
  clear z1 z2 z3 z4 z5 z6 z7 z8 hm
  have T0 := Two.mk w x y u z a b c d
  have RA := Lib.hid (fun w => rright_any x y u z b1 w)
  have RB := Lib.hid (fun w => rright_any a b c d b2 w)
  rw [h1] at RA
  rw [h2] at RB
  clear h1 h2 b1 b2
  go_enter Try.func5, Try.ntmps5
  go_wp2_with fail
  refine (J.out _).mono ?_
  rintro e w1 ⟨rfl, hb1⟩
  have T := T0.nextB hb1 (by simp)
  have X := Lib.hid (Bx.mk T x y u z).drew
  clear T0 hb1 J T
  go_wp2_with fail
  refine wp_region_held_drew (S := (fun ws => ws.cell? ⟨w.heap.size, 0, none⟩ = some (.int .i64 x) ∧ ws.cell? ⟨w.heap.size, 1, none⟩ = some (.int .i64 y) ∧ ws.cell? ⟨w.heap.size, 2, none⟩ = some (.int .i64 u) ∧ ws.cell? ⟨w.heap.size, 3, none⟩ = some (.int .i64 z) ∧ ws.cell? ⟨w.heap.size + 1, 0, none⟩ = some (.int .i64 a) ∧ ws.cell? ⟨w.heap.size + 1, 1, none⟩ = some (.int .i64 b) ∧ ws.cell? ⟨w.heap.size + 1, 2, none⟩ = some (.int .i64 c) ∧ ws.cell? ⟨w.heap.size + 1, 3, none⟩ = some (.int .i64 d) ∧ ws.cell? ⟨w1.heap.size, 0, none⟩ = some (.int .i64 x) ∧ ws.cell? ⟨w1.heap.size, 1, none⟩ = some (.int .i64 y) ∧ ws.cell? ⟨w1.heap.size, 2, none⟩ = some (.int .i64 u) ∧ ws.cell? ⟨w1.heap.size, 3, none⟩ = some (.int .i64 z))) (by kernel_rfl) X.out.cells (fun hHeld => ?_)
  refine wpAnyH_take (i := 0) (v := ?_) rfl (by kernel_rfl) (by kernel_rfl) (by kernel_rfl) (fun _ _ _ h => h) (Or.inl ⟨by rfl, ?_⟩) (by assumption) ?_
  rotate_left
  · (intro w hSw; (try dsimp only at hSw); first | (go_simp; done) | (go_simp; with_reducible rfl))
  simp only [Act.put, List.getElem_toArray, List.getElem_cons_zero, List.getElem_cons_succ, List.setIfInBounds_toArray, List.set_cons_zero, List.set_cons_succ]
  refine wpAnyH_take (i := 3) (v := ?_) rfl (by kernel_rfl) (by kernel_rfl) (by kernel_rfl) (fun _ _ _ h => h) (Or.inl ⟨by rfl, ?_⟩) (by assumption) ?_
  rotate_left
  · (intro w hSw; (try dsimp only at hSw); first | (go_simp; done) | (go_simp; with_reducible rfl))
  simp only [Act.put, List.getElem_toArray, List.getElem_cons_zero, List.getElem_cons_succ, List.setIfInBounds_toArray, List.set_cons_zero, List.set_cons_succ]
  refine wpAnyH_ready (rs := [1]) (by kernel_rfl) (by simp) ?_
  refine AllReadyH.cons rfl (fun K hK => ?_) AllReadyH.nil
  go_simp
  go_wp2_with (go_at_call 8; refine (ref_any _ _ _ _ _).mono ?_; rintro e w2 ⟨rfl, hb⟩)
  have X := Lib.hid (X.out.next hb)
  refine hK.out _ _ X.out.cells (fun hHeld2 => ?_)
  clear hK K hHeld hb
  have hHeld := hHeld2
  clear hHeld2
  refine wpAnyH_ready (rs := [2]) (by kernel_rfl) (by simp) ?_
  refine AllReadyH.cons rfl (fun K hK => ?_) AllReadyH.nil
  go_simp
  go_wp2_with (go_at_call 7; refine (RA.out _).mono ?_; rintro e w3 ⟨rfl, hb⟩)
  have X := Lib.hid (X.out.next hb)
  refine hK.out _ _ X.out.cells (fun hHeld2 => ?_)
  clear hK K hHeld hb
  have hHeld := hHeld2
  clear hHeld2
  refine wpAnyH_ready (rs := [4]) (by kernel_rfl) (by simp) ?_
  refine AllReadyH.cons rfl (fun K hK => ?_) AllReadyH.nil
  go_simp
  go_wp2_with (go_at_call 8; refine (ref_any _ _ _ _ _).mono ?_; rintro e w4 ⟨rfl, hb⟩)
  have X := Lib.hid (X.out.next hb)
  refine hK.out _ _ X.out.cells (fun hHeld2 => ?_)
  clear hK K hHeld hb
  have hHeld := hHeld2
  clear hHeld2
  refine wpAnyH_ready (rs := [5]) (by kernel_rfl) (by simp) ?_
  refine AllReadyH.cons rfl (fun K hK => ?_) AllReadyH.nil
  go_simp
  go_wp2_with (go_at_call 7; refine (RB.out _).mono ?_; rintro e w5 ⟨rfl, hb⟩)
  have X := Lib.hid (X.out.next hb)
  refine hK.out _ _ X.out.cells (fun hHeld2 => ?_)
  clear hK K hHeld hb
  have hHeld := hHeld2
  clear hHeld2
  refine wpAnyH_take (i := 6) (v := ?_) rfl (by kernel_rfl) (by kernel_rfl) (by kernel_rfl) (fun _ _ _ h => h) (Or.inl ⟨by rfl, ?_⟩) (by assumption) ?_
  rotate_left
  · (intro w hSw; (try dsimp only at hSw); first | (go_simp; done) | (go_simp; with_reducible rfl))
  simp only [Act.put, List.getElem_toArray, List.getElem_cons_zero, List.getElem_cons_succ, List.setIfInBounds_toArray, List.set_cons_zero, List.set_cons_succ]
  refine wpAnyH_take (i := 7) (v := ?_) rfl (by kernel_rfl) (by kernel_rfl) (by kernel_rfl) (fun _ _ _ h => h) (Or.inl ⟨by rfl, ?_⟩) (by assumption) ?_
  rotate_left
  · (intro w hSw; (try dsimp only at hSw); first | (go_simp; done) | (go_simp; with_reducible rfl))
  simp only [Act.put, List.getElem_toArray, List.getElem_cons_zero, List.getElem_cons_succ, List.setIfInBounds_toArray, List.set_cons_zero, List.set_cons_succ]
  refine wpAnyH_done (by kernel_rfl) ?_ _
  clear hHeld RA RB
  obtain ⟨k0, k1, k2, k3, k4, k5, k6, k7, k8, k9, k10, k11⟩ := X.out.cells
  have hun : undef = Value.tuple #[] := rfl
  go_wp2_with fail
  refine (G.out _).mono ?_
  rintro e w6 ⟨rfl, hb⟩
  clear k0 k1 k2 k3 k4 k5 k6 k7 k8 k9 k10 k11
  have X := Lib.hid (X.out.next hb)
  obtain ⟨k0, k1, k2, k3, k4, k5, k6, k7, k8, k9, k10, k11⟩ := X.out.cells
  clear hb
  go_wp2_with (go_at_call 14; refine (awake_any _).mono ?_; rintro e w7 ⟨rfl, hb7⟩)
  go_ret
  exact ⟨rfl, (X.out.next hb7).1⟩
end Go.Proofs.Ytognbljpmhhbkaa.rectJoins
