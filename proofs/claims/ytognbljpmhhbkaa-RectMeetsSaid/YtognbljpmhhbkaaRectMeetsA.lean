/-
  RectMeets, first part: what has no tile in common. Conditions: as the theorems say.
-/
import Derived.Test.YtognbljpmhhbkaaRectH
import Derived.Test.YtognbljpmhhbkaaRectJoinsA
import Derived.Test.YtognbljpmhhbkaaSteps
import Derived.Deep.RegionHeld
namespace Go.Proofs.Ytognbljpmhhbkaa.rectMeets
open Go.ChangeShapes Go.WideShapes Go.ChangeAt Go.RowKit
open rect
open base (ret_bool ret_int made up Blk Only)
set_option linter.unusedVariables false
set_option linter.unusedSimpArgs false

def Good (w : World) (e : Ending) (w' : World) : Prop := e = .returned (.bool true) ∧ Below w.heap.size w w'

set_option maxHeartbeats 2000000 in
theorem in_no (x y u z a b c d : Int) (w : World) (C : ∀ w, Calls Try.prog 19 #[(.agg #[.int .i64 x, .int .i64 y, .int .i64 u, .int .i64 z]), (.agg #[.int .i64 a, .int .i64 b, .int .i64 c, .int .i64 d])] w fun e w' => e = .returned (.tuple #[(.agg #[.int .i64 0, .int .i64 0, .int .i64 0, .int .i64 0]), .bool false]) ∧ Below w.heap.size w w') :
    Calls Try.prog 21 #[(.agg #[.int .i64 x, .int .i64 y, .int .i64 u, .int .i64 z]), (.agg #[.int .i64 a, .int .i64 b, .int .i64 c, .int .i64 d])] w fun e w' => e = .returned (.bool false) ∧ Below w.heap.size w w' := by
  have T0 := Two.mk w x y u z a b c d
  have CC := Lib.hid C
  clear C
  go_enter Try.func21, Try.ntmps21
  go_wp2_with fail
  refine (CC.out _).mono ?_
  rintro e w1 ⟨rfl, hb1⟩
  have T := Lib.hid (T0.nextB hb1 (by simp))
  clear T0 hb1
  have hun : undef = Value.tuple #[] := rfl
  go_wp2
  go_ret
  exact ⟨rfl, T.out.2.2.alloc T.out.2.2.size _⟩

set_option maxRecDepth 100000 in
set_option maxHeartbeats 2000000 in
theorem walk_no (x y u z a b c d : Int) (w : World)
    (R : ∀ w, Calls Try.prog 18 #[(.agg #[.int .i64 x, .int .i64 y, .int .i64 u, .int .i64 z]), (.agg #[.int .i64 a, .int .i64 b, .int .i64 c, .int .i64 d])] w fun e w' => e = .returned (.bool false) ∧ Below w.heap.size w w')
    (C1 : ∀ w, Calls Try.prog 19 #[(.agg #[.int .i64 x, .int .i64 y, .int .i64 u, .int .i64 z]), (.agg #[.int .i64 a, .int .i64 b, .int .i64 c, .int .i64 d])] w fun e w' => e = .returned (.tuple #[(.agg #[.int .i64 0, .int .i64 0, .int .i64 0, .int .i64 0]), .bool false]) ∧ Below w.heap.size w w')
    (C2 : ∀ w, Calls Try.prog 19 #[(.agg #[.int .i64 a, .int .i64 b, .int .i64 c, .int .i64 d]), (.agg #[.int .i64 x, .int .i64 y, .int .i64 u, .int .i64 z])] w fun e w' => e = .returned (.tuple #[(.agg #[.int .i64 0, .int .i64 0, .int .i64 0, .int .i64 0]), .bool false]) ∧ Below w.heap.size w w')
    (M1 : ∀ w, Calls Try.prog 20 #[(.agg #[.int .i64 x, .int .i64 y, .int .i64 u, .int .i64 z]), (.agg #[.int .i64 a, .int .i64 b, .int .i64 c, .int .i64 d])] w fun e w' => e = .returned (.bool false) ∧ Below w.heap.size w w')
    (M2 : ∀ w, Calls Try.prog 20 #[(.agg #[.int .i64 a, .int .i64 b, .int .i64 c, .int .i64 d]), (.agg #[.int .i64 x, .int .i64 y, .int .i64 u, .int .i64 z])] w fun e w' => e = .returned (.bool false) ∧ Below w.heap.size w w') :
    Calls Try.prog 4 #[(.agg #[.int .i64 x, .int .i64 y, .int .i64 u, .int .i64 z]), (.agg #[.int .i64 a, .int .i64 b, .int .i64 c, .int .i64 d])] w (Good w) := by
  have I := Lib.hid (fun w => in_no x y u z a b c d w C1)
  have RR := Lib.hid R
  have D1 := Lib.hid C1
  have D2 := Lib.hid C2
  have E1 := Lib.hid M1
  have E2 := Lib.hid M2
  clear R C1 C2 M1 M2
  have T0 := Lib.hid (Two.mk w x y u z a b c d)
  go_enter Try.func4, Try.ntmps4
  go_wp2_with fail
  have X := Lib.hid T0.out.drew
  clear T0
  refine wp_region_held_drew (S := (fun ws => ws.cell? ⟨w.heap.size, 0, none⟩ = some (.int .i64 x) ∧ ws.cell? ⟨w.heap.size, 1, none⟩ = some (.int .i64 y) ∧ ws.cell? ⟨w.heap.size, 2, none⟩ = some (.int .i64 u) ∧ ws.cell? ⟨w.heap.size, 3, none⟩ = some (.int .i64 z) ∧ ws.cell? ⟨w.heap.size + 1, 0, none⟩ = some (.int .i64 a) ∧ ws.cell? ⟨w.heap.size + 1, 1, none⟩ = some (.int .i64 b) ∧ ws.cell? ⟨w.heap.size + 1, 2, none⟩ = some (.int .i64 c) ∧ ws.cell? ⟨w.heap.size + 1, 3, none⟩ = some (.int .i64 d))) (by kernel_rfl) X.out.cells (fun hHeld => ?_)
  refine wpAnyH_take (i := 0) (v := ?_) rfl (by kernel_rfl) (by kernel_rfl) (by kernel_rfl) (fun _ _ _ h => h) (Or.inl ⟨by rfl, ?_⟩) (by assumption) ?_
  rotate_left
  · (intro w hSw; (try dsimp only at hSw); first | (go_simp; done) | (go_simp; with_reducible rfl))
  simp only [Act.put, List.getElem_toArray, List.getElem_cons_zero, List.getElem_cons_succ, List.setIfInBounds_toArray, List.set_cons_zero, List.set_cons_succ]
  refine wpAnyH_take (i := 2) (v := ?_) rfl (by kernel_rfl) (by kernel_rfl) (by kernel_rfl) (fun _ _ _ h => h) (Or.inl ⟨by rfl, ?_⟩) (by assumption) ?_
  rotate_left
  · (intro w hSw; (try dsimp only at hSw); first | (go_simp; done) | (go_simp; with_reducible rfl))
  simp only [Act.put, List.getElem_toArray, List.getElem_cons_zero, List.getElem_cons_succ, List.setIfInBounds_toArray, List.set_cons_zero, List.set_cons_succ]
  refine wpAnyH_ready (rs := [1]) (by kernel_rfl) (by simp) ?_
  refine AllReadyH.cons rfl (fun K hK => ?_) AllReadyH.nil
  go_simp
  go_wp2_with (go_at_call 8; refine (ref_any _ _ _ _ _).mono ?_; rintro e w1 ⟨rfl, hb⟩)
  have X := Lib.hid (X.out.next hb)
  refine hK.out _ _ X.out.cells (fun hHeld2 => ?_)
  clear hK K hHeld hb
  have hHeld := hHeld2
  clear hHeld2
  refine wpAnyH_ready (rs := [3]) (by kernel_rfl) (by simp) ?_
  refine AllReadyH.cons rfl (fun K hK => ?_) AllReadyH.nil
  go_simp
  go_wp2_with (go_at_call 8; refine (ref_any _ _ _ _ _).mono ?_; rintro e w2 ⟨rfl, hb⟩)
  have X := Lib.hid (X.out.next hb)
  refine hK.out _ _ X.out.cells (fun hHeld2 => ?_)
  clear hK K hHeld hb
  have hHeld := hHeld2
  clear hHeld2
  refine wpAnyH_ready (rs := [4]) (by kernel_rfl) (by simp) ?_
  refine AllReadyH.cons rfl (fun K hK => ?_) AllReadyH.nil
  go_simp
  go_wp2_with (go_at_call 18; refine (RR.out _).mono ?_; rintro e w3 ⟨rfl, hb⟩)
  have X := Lib.hid (X.out.next hb)
  refine hK.out _ _ X.out.cells (fun hHeld2 => ?_)
  clear hK K hHeld hb
  have hHeld := hHeld2
  clear hHeld2
  refine wpAnyH_take (i := 5) (v := ?_) rfl (by kernel_rfl) (by kernel_rfl) (by kernel_rfl) (fun _ _ _ h => h) (Or.inl ⟨by rfl, ?_⟩) (by assumption) ?_
  rotate_left
  · (intro w hSw; (try dsimp only at hSw); first | (go_simp; done) | (go_simp; with_reducible rfl))
  simp only [Act.put, List.getElem_toArray, List.getElem_cons_zero, List.getElem_cons_succ, List.setIfInBounds_toArray, List.set_cons_zero, List.set_cons_succ]
  refine wpAnyH_done (by kernel_rfl) ?_ _
  clear hHeld RR
  obtain ⟨k0, k1, k2, k3, k4, k5, k6, k7⟩ := X.out.cells
  go_wp2_with fail
  refine (D1.out _).mono ?_
  rintro e w4 ⟨rfl, hb⟩
  have Y := Lib.hid (rectJoins.Bx.mk (X.out.next hb) 0 0 0 0)
  clear hb k0 k1 k2 k3 k4 k5 k6 k7 X D1
  obtain ⟨k0, k1, k2, k3, k4, k5, k6, k7, k8, k9, k10, k11⟩ := Y.out.cells
  go_wp2_with fail
  refine (D2.out _).mono ?_
  rintro e w5 ⟨rfl, hb⟩
  have Y0 := Lib.hid (Y.out.next hb)
  have ZZ := Lib.hid (base.Blk.new w5 23 #[.int .i64 0, .int .i64 0, .int .i64 0, .int .i64 0])
  have Z := Lib.hid (And.intro (Y0.out.next (made w5 (.cells #[.int .i64 0, .int .i64 0, .int .i64 0, .int .i64 0] 23))) ZZ.out)
  clear hb k0 k1 k2 k3 k4 k5 k6 k7 k8 k9 k10 k11 Y Y0 ZZ D2
  obtain ⟨k0, k1, k2, k3, k4, k5, k6, k7, k8, k9, k10, k11⟩ := Z.out.1.cells
  obtain ⟨k12, k13, k14, k15⟩ := Z.out.2.four
  go_wp2_with fail
  refine (E1.out _).mono ?_
  rintro e w6 ⟨rfl, hb⟩
  have Z' := Lib.hid (And.intro (Z.out.1.next hb) (base.Blk.below Z.out.2 hb (base.Blk.lt Z.out.2)))
  clear hb k0 k1 k2 k3 k4 k5 k6 k7 k8 k9 k10 k11 k12 k13 k14 k15 Z E1
  have Z := Z'
  clear Z'
  obtain ⟨k0, k1, k2, k3, k4, k5, k6, k7, k8, k9, k10, k11⟩ := Z.out.1.cells
  obtain ⟨k12, k13, k14, k15⟩ := Z.out.2.four
  go_wp2_with fail
  refine (E2.out _).mono ?_
  rintro e w7 ⟨rfl, hb⟩
  have Z' := Lib.hid (And.intro (Z.out.1.next hb) (base.Blk.below Z.out.2 hb (base.Blk.lt Z.out.2)))
  clear hb k0 k1 k2 k3 k4 k5 k6 k7 k8 k9 k10 k11 k12 k13 k14 k15 Z E2
  have Z := Z'
  clear Z'
  obtain ⟨k0, k1, k2, k3, k4, k5, k6, k7, k8, k9, k10, k11⟩ := Z.out.1.cells
  obtain ⟨k12, k13, k14, k15⟩ := Z.out.2.four
  have hun : undef = Value.tuple #[] := rfl
  go_wp2_with fail
  refine (I.out _).mono ?_
  rintro e w8 ⟨rfl, hb⟩
  have Z' := Lib.hid (And.intro (Z.out.1.next hb) (base.Blk.below Z.out.2 hb (base.Blk.lt Z.out.2)))
  clear hb k0 k1 k2 k3 k4 k5 k6 k7 k8 k9 k10 k11 k12 k13 k14 k15 Z I
  have Z := Z'
  clear Z'
  obtain ⟨k0, k1, k2, k3, k4, k5, k6, k7, k8, k9, k10, k11⟩ := Z.out.1.cells
  obtain ⟨k12, k13, k14, k15⟩ := Z.out.2.four
  go_wp2_with (go_at_call 14; refine (awake_any _).mono ?_; rintro e w9 ⟨rfl, hb9⟩)
  go_ret
  exact ⟨rfl, (Z.out.1.next hb9).1⟩
end Go.Proofs.Ytognbljpmhhbkaa.rectMeets
