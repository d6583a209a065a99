/-
  RectMeets, fourth part: what has tiles in common. Conditions: as the theorem says.
-/
import Derived.Test.YtognbljpmhhbkaaRectMeetsC
namespace Go.Proofs.Ytognbljpmhhbkaa.rectMeets
open Go.ChangeShapes Go.WideShapes Go.ChangeAt Go.RowKit
open rect
open base (ret_bool ret_int made up Blk Only)
set_option linter.unusedVariables false
set_option linter.unusedSimpArgs false

/-- the boxes stand, and a literal of two numbers beside them -/
def Lit2 (w : World) (g gl : Nat) (x y u z a b c d p q r s m n : Int) (ws : World) : Prop :=
  rectJoins.Bx w g x y u z a b c d p q r s ws ∧ Blk ws gl 3 #[.int .i64 m, .int .i64 n]
theorem Lit2.next {w ws ws' : World} {g gl : Nat} {x y u z a b c d p q r s m n : Int} (h : Lit2 w g gl x y u z a b c d p q r s m n ws) (hb : Below ws.heap.size ws ws') : Lit2 w g gl x y u z a b c d p q r s m n ws' :=
  ⟨h.1.next hb, base.Blk.below h.2 hb (base.Blk.lt h.2)⟩
theorem Lit2.mk {w ws : World} {g : Nat} {x y u z a b c d p q r s : Int} (h : rectJoins.Bx w g x y u z a b c d p q r s ws) (m n : Int) : Lit2 w g ws.heap.size x y u z a b c d p q r s m n (ws.alloc (.cells #[.int .i64 m, .int .i64 n] 3)) :=
  ⟨h.next (made _ _), base.Blk.new _ _ _⟩

/-- the boxes stand, and a literal of four pairs beside them -/
def Lit8 (w : World) (g gl : Nat) (x y u z a b c d p q r s m0 m1 m2 m3 m4 m5 m6 m7 : Int) (ws : World) : Prop :=
  rectJoins.Bx w g x y u z a b c d p q r s ws ∧ Blk ws gl 41 #[.int .i64 m0, .int .i64 m1, .int .i64 m2, .int .i64 m3, .int .i64 m4, .int .i64 m5, .int .i64 m6, .int .i64 m7]
theorem Lit8.next {w ws ws' : World} {g gl : Nat} {x y u z a b c d p q r s m0 m1 m2 m3 m4 m5 m6 m7 : Int} (h : Lit8 w g gl x y u z a b c d p q r s m0 m1 m2 m3 m4 m5 m6 m7 ws) (hb : Below ws.heap.size ws ws') : Lit8 w g gl x y u z a b c d p q r s m0 m1 m2 m3 m4 m5 m6 m7 ws' :=
  ⟨h.1.next hb, base.Blk.below h.2 hb (base.Blk.lt h.2)⟩
theorem Lit8.mk {w ws : World} {g : Nat} {x y u z a b c d p q r s : Int} (h : rectJoins.Bx w g x y u z a b c d p q r s ws) (m0 m1 m2 m3 m4 m5 m6 m7 : Int) : Lit8 w g ws.heap.size x y u z a b c d p q r s m0 m1 m2 m3 m4 m5 m6 m7 (ws.alloc (.cells #[.int .i64 m0, .int .i64 m1, .int .i64 m2, .int .i64 m3, .int .i64 m4, .int .i64 m5, .int .i64 m6, .int .i64 m7] 41)) :=
  ⟨h.next (made _ _), base.Blk.new _ _ _⟩
theorem eq4 (p q r s x y u z : Int) (w : World) : (binOp .eql 23 (.agg #[.int .i64 p, .int .i64 q, .int .i64 r, .int .i64 s]) (.agg #[.int .i64 x, .int .i64 y, .int .i64 u, .int .i64 z])).run Try.prog w = .ok (.bool (same4 p q r s x y u z)) w := by
  go_simp
  by_cases h1 : p = x <;> by_cases h2 : q = y <;> by_cases h3 : r = u <;> by_cases h4 : s = z <;> simp [same4, h1, h2, h3, h4]

set_option maxRecDepth 100000 in
set_option maxHeartbeats 4000000 in
theorem walk_yes (x y u z a b c d p q r s : Int) (w : World) (h : Both x y u z a b c d p q r s) :
    Calls Try.prog 4 #[(.agg #[.int .i64 x, .int .i64 y, .int .i64 u, .int .i64 z]), (.agg #[.int .i64 a, .int .i64 b, .int .i64 c, .int .i64 d])] w (Good w) := by
  have I := Lib.hid (fun w => h.within w)
  have RR := Lib.hid (fun w => h.rmeets w)
  have D1 := Lib.hid (fun w => h.common w)
  have D2 := Lib.hid (fun w => h.swap.common w)
  have E1 := Lib.hid (fun w => h.meets w)
  have E2 := Lib.hid (fun w => h.swap.meets w)
  have HB := Lib.hid h
  clear h
  have T0 := Lib.hid (Two.mk w x y u z a b c d)
  go_enter Try.func4, Try.ntmps4
  go_wp2_with fail
  have X := Lib.hid T0.out.drew
  clear T0
  refine wp_region_held_drew (S := (fun ws => ws.cell? ⟨w.heap.size, 0, none⟩ = some (.int .i64 x) ∧ ws.cell? ⟨w.heap.size, 1, none⟩ = some (.int .i64 y) ∧ ws.cell? ⟨w.heap.size, 2, none⟩ = some (.int .i64 u) ∧ ws.cell? ⟨w.heap.size, 3, none⟩ = some (.int .i64 z) ∧ ws.cell? ⟨w.heap.size + 1, 0, none⟩ = some (.int .i64 a) ∧ ws.cell? ⟨w.heap.size + 1, 1, none⟩ = some (.int .i64 b) ∧ ws.cell? ⟨w.heap.size + 1, 2, none⟩ = some (.int .i64 c) ∧ ws.cell? ⟨w.heap.size + 1, 3, none⟩ = some (.int .i64 d))) (by kernel_rfl) X.out.cells (fun hHeld => ?_)
  refine wpAnyH_take (i := 0) (v := ?_) rfl (by kernel_rfl) (by kernel_rfl) (by kernel_rfl) (fun _ _ _ h => h) (Or.inl ⟨by rfl, ?_⟩) (by assumption) ?_
  rotate_left
  · (intro w hSw; (try dsimp only at hSw); first | (go_simp; done) | (go_simp; with_reducible rfl))
  simp only [Act.put, List.getElem_toArray, List.getElem_cons_zero, List.getElem_cons_succ, List.setIfInBounds_toArray, List.set_cons_zero, List.set_cons_succ]
  refine wpAnyH_take (i := 2) (v := ?_) rfl (by kernel_rfl) (by kernel_rfl) (by kernel_rfl) (fun _ _ _ h => h) (Or.inl ⟨by rfl, ?_⟩) (by assumption) ?_
  rotate_left
  · (intro w hSw; (try dsimp only at hSw); first | (go_simp; done) | (go_simp; with_reducible rfl))
  simp only [Act.put, List.getElem_toArray, List.getElem_cons_zero, List.getElem_cons_succ, List.setIfInBounds_toArray, List.set_cons_zero, List.set_cons_succ]
  refine wpAnyH_ready (rs := [1]) (by kernel_rfl) (by simp) ?_
  refine AllReadyH.cons rfl (fun K hK => ?_) AllReadyH.nil
  go_simp
  go_wp2_with (go_at_call 8; refine (ref_any _ _ _ _ _).mono ?_; rintro e w1 ⟨rfl, hb⟩)
  have X := Lib.hid (X.out.next hb)
  refine hK.out _ _ X.out.cells (fun hHeld2 => ?_)
  clear hK K hHeld hb
  have hHeld := hHeld2
  clear hHeld2
  refine wpAnyH_ready (rs := [3]) (by kernel_rfl) (by simp) ?_
  refine AllReadyH.cons rfl (fun K hK => ?_) AllReadyH.nil
  go_simp
  go_wp2_with (go_at_call 8; refine (ref_any _ _ _ _ _).mono ?_; rintro e w2 ⟨rfl, hb⟩)
  have X := Lib.hid (X.out.next hb)
  refine hK.out _ _ X.out.cells (fun hHeld2 => ?_)
  clear hK K hHeld hb
  have hHeld := hHeld2
  clear hHeld2
  refine wpAnyH_ready (rs := [4]) (by kernel_rfl) (by simp) ?_
  refine AllReadyH.cons rfl (fun K hK => ?_) AllReadyH.nil
  go_simp
  go_wp2_with (go_at_call 18; refine (RR.out _).mono ?_; rintro e w3 ⟨rfl, hb⟩)
  have X := Lib.hid (X.out.next hb)
  refine hK.out _ _ X.out.cells (fun hHeld2 => ?_)
  clear hK K hHeld hb
  have hHeld := hHeld2
  clear hHeld2
  refine wpAnyH_take (i := 5) (v := ?_) rfl (by kernel_rfl) (by kernel_rfl) (by kernel_rfl) (fun _ _ _ h => h) (Or.inl ⟨by rfl, ?_⟩) (by assumption) ?_
  rotate_left
  · (intro w hSw; (try dsimp only at hSw); first | (go_simp; done) | (go_simp; with_reducible rfl))
  simp only [Act.put, List.getElem_toArray, List.getElem_cons_zero, List.getElem_cons_succ, List.setIfInBounds_toArray, List.set_cons_zero, List.set_cons_succ]
  refine wpAnyH_done (by kernel_rfl) ?_ _
  clear hHeld RR
  obtain ⟨k0, k1, k2, k3, k4, k5, k6, k7⟩ := X.out.cells
  go_wp2_with fail
  refine (D1.out _).mono ?_
  rintro e w4 ⟨rfl, hb⟩
  have Y := Lib.hid (rectJoins.Bx.mk (X.out.next hb) p q r s)
  clear hb k0 k1 k2 k3 k4 k5 k6 k7 X D1
  obtain ⟨k0, k1, k2, k3, k4, k5, k6, k7, k8, k9, k10, k11⟩ := Y.out.cells
  go_wp2_with fail
  refine (D2.out _).mono ?_
  rintro e w5 ⟨rfl, hb⟩
  have Y0 := Lib.hid (Y.out.next hb)
  have ZZ := Lib.hid (base.Blk.new w5 23 #[.int .i64 p, .int .i64 q, .int .i64 r, .int .i64 s])
  have Z := Lib.hid (And.intro (Y0.out.next (made w5 (.cells #[.int .i64 p, .int .i64 q, .int .i64 r, .int .i64 s] 23))) ZZ.out)
  clear hb k0 k1 k2 k3 k4 k5 k6 k7 k8 k9 k10 k11 Y Y0 ZZ D2
  obtain ⟨k0, k1, k2, k3, k4, k5, k6, k7, k8, k9, k10, k11⟩ := Z.out.1.cells
  obtain ⟨k12, k13, k14, k15⟩ := Z.out.2.four
  go_wp2_with fail
  refine (E1.out _).mono ?_
  rintro e w6 ⟨rfl, hb⟩
  have Z' := Lib.hid (And.intro (Z.out.1.next hb) (base.Blk.below Z.out.2 hb (base.Blk.lt Z.out.2)))
  clear hb k0 k1 k2 k3 k4 k5 k6 k7 k8 k9 k10 k11 k12 k13 k14 k15 Z E1
  have Z := Z'
  clear Z'
  obtain ⟨k0, k1, k2, k3, k4, k5, k6, k7, k8, k9, k10, k11⟩ := Z.out.1.cells
  obtain ⟨k12, k13, k14, k15⟩ := Z.out.2.four
  go_wp2_with fail
  refine (E2.out _).mono ?_
  rintro e w7 ⟨rfl, hb⟩
  have Z' := Lib.hid (And.intro (Z.out.1.next hb) (base.Blk.below Z.out.2 hb (base.Blk.lt Z.out.2)))
  clear hb k0 k1 k2 k3 k4 k5 k6 k7 k8 k9 k10 k11 k12 k13 k14 k15 Z E2
  have Z := Z'
  clear Z'
  obtain ⟨k0, k1, k2, k3, k4, k5, k6, k7, k8, k9, k10, k11⟩ := Z.out.1.cells
  obtain ⟨k12, k13, k14, k15⟩ := Z.out.2.four
  have hun : undef = Value.tuple #[] := rfl
  obtain ⟨c1, c2, c3, c4, c5, c6⟩ := HB.out.corner
  have wr1 : IntKind.i64.wrap (p + r) = p + r := IntWalk.i64_in _ (by omega)
  have wr2 : IntKind.i64.wrap (p + r - 1) = p + r - 1 := IntWalk.i64_in _ (by omega)
  have wr3 : IntKind.i64.wrap (q + s) = q + s := IntWalk.i64_in _ (by omega)
  have wr4 : IntKind.i64.wrap (q + s - 1) = q + s - 1 := IntWalk.i64_in _ (by omega)
  have K0 := Lib.hid (Lit2.mk Z.out.1 p (p + r - 1))
  go_wp2_with fail
  clear hun
  go_loopw [10, 86] (fun f v wr => ∃ (k : Nat) (W : World), W = wr ∧ k ≤ 2 ∧ v = .int .i64 k ∧ f = .bool true ∧ Lit2 w w4.heap.size w7.heap.size x y u z a b c d p q r s p (p + r - 1) wr) (fun _ v _ => 2 - (intOf v).toNat)
  case atStart => exact ⟨0, _, rfl, by omega, rfl, rfl, K0.out⟩
  case round =>
    obtain ⟨k, w8, rfl, hk, rfl, rfl, hj⟩ := hrel
    have J := Lib.hid hj
    clear hj K0 Z k0 k1 k2 k3 k4 k5 k6 k7 k8 k9 k10 k11 k12 k13 k14 k15
    by_cases hk2 : k < 2
    · obtain ⟨vx, hcx, hx⟩ : ∃ vx : Int, w8.cell? ⟨w7.heap.size, k, none⟩ = some (.int .i64 vx) ∧ p ≤ vx ∧ vx < p + r := by
        rcases (show k = 0 ∨ k = 1 by omega) with rfl | rfl
        · exact ⟨p, J.out.2.cell 0, by omega, by omega⟩
        · exact ⟨p + r - 1, J.out.2.cell 1, by omega, by omega⟩
      obtain ⟨k0, k1, k2, k3, k4, k5, k6, k7, k8, k9, k10, k11⟩ := J.out.1.cells
      have hkd : decide ((k : Int) < 2) = true := by simp; omega
      have K1 := Lib.hid (And.intro (J.out.next (made w8 (.cells #[.int .i64 q, .int .i64 (q + s - 1)] 3))) (base.Blk.new w8 3 #[.int .i64 q, .int .i64 (q + s - 1)]))
      go_wp2_with fail
      go_loopw [10, 100] (fun f v wr => ∃ (m : Nat) (W : World), W = wr ∧ m ≤ 2 ∧ v = .int .i64 m ∧ f = .bool true ∧ Lit2 w w4.heap.size w7.heap.size x y u z a b c d p q r s p (p + r - 1) wr ∧ Blk wr w8.heap.size 3 #[.int .i64 q, .int .i64 (q + s - 1)]) (fun _ v _ => 2 - (intOf v).toNat)
      case atStart => exact ⟨0, _, rfl, by omega, rfl, rfl, K1.out⟩
      case round =>
        obtain ⟨m, w9, rfl, hm, rfl, rfl, hj1, hj2⟩ := hrel
        have J1 := Lib.hid hj1
        have J2 := Lib.hid hj2
        clear hj1 hj2 K1 J k0 k1 k2 k3 k4 k5 k6 k7 k8 k9 k10 k11 hcx
        by_cases hm2 : m < 2
        · obtain ⟨vy, hcy, hy⟩ : ∃ vy : Int, w9.cell? ⟨w8.heap.size, m, none⟩ = some (.int .i64 vy) ∧ q ≤ vy ∧ vy < q + s := by
            rcases (show m = 0 ∨ m = 1 by omega) with rfl | rfl
            · exact ⟨q, J2.out.cell 0, by omega, by omega⟩
            · exact ⟨q + s - 1, J2.out.cell 1, by omega, by omega⟩
          obtain ⟨k0, k1, k2, k3, k4, k5, k6, k7, k8, k9, k10, k11⟩ := J1.out.1.cells
          have HA := Lib.hid (fun w => (show Calls Try.prog 10 #[(.agg #[.int .i64 x, .int .i64 y, .int .i64 u, .int .i64 z]), .int .i64 vx, .int .i64 vy] w fun e w' => e = .returned (.bool true) ∧ Below w.heap.size w w' from by
            have := holds_any x y u z vx vy w
            rwa [(HB.out.ins hx hy).1] at this))
          have HC := Lib.hid (fun w => (show Calls Try.prog 10 #[(.agg #[.int .i64 a, .int .i64 b, .int .i64 c, .int .i64 d]), .int .i64 vx, .int .i64 vy] w fun e w' => e = .returned (.bool true) ∧ Below w.heap.size w w' from by
            have := holds_any a b c d vx vy w
            rwa [(HB.out.ins hx hy).2] at this))
          go_wp2_with fail
          refine (HA.out _).mono ?_
          rintro e w10 ⟨rfl, hb⟩
          have J3 := Lib.hid (J1.out.next hb)
          have J4 := Lib.hid (base.Blk.below J2.out hb (base.Blk.lt J2.out))
          clear hb J1 J2 k0 k1 k2 k3 k4 k5 k6 k7 k8 k9 k10 k11 hcy HA
          obtain ⟨k0, k1, k2, k3, k4, k5, k6, k7, k8, k9, k10, k11⟩ := J3.out.1.cells
          go_wp2_with fail
          refine (HC.out _).mono ?_
          rintro e w11 ⟨rfl, hb⟩
          have J5 := Lib.hid (J3.out.next hb)
          have J6 := Lib.hid (base.Blk.below J4.out hb (base.Blk.lt J4.out))
          clear hb J3 J4 k0 k1 k2 k3 k4 k5 k6 k7 k8 k9 k10 k11 HC
          go_wp2_with fail
          go_roundw
          case rel => exact ⟨m + 1, _, rfl, by omega, by go_num, rfl, J5.out, J6.out⟩
          case measure => simp [intOf]; omega
        · have hm3 : m = 2 := by omega
          subst hm3
          go_wp2_with fail
          go_roundw
          case rel => exact ⟨k + 1, _, rfl, by omega, by go_num, rfl, J1.out⟩
          case measure => simp [intOf]; omega
    · have hk3 : k = 2 := by omega
      subst hk3
      rw [show ((2 : Nat) : Int) = 2 from rfl]
      have X := Lib.hid J.out.1
      clear J
      obtain ⟨k0, k1, k2, k3, k4, k5, k6, k7, k8, k9, k10, k11⟩ := X.out.cells
      have v1 : IntKind.i64.wrap (p - 1) = p - 1 := IntWalk.i64_in _ (by omega)
      have v2 : IntKind.i64.wrap (q - 1) = q - 1 := IntWalk.i64_in _ (by omega)
      go_wp2_with fail
      go_wp2_with fail
      have K0 := Lib.hid (Lit8.mk X.out (p - 1) q (p + r) q p (q - 1) p (q + s))
      go_loopw [149, 15] (fun v f wr => ∃ (k : Nat) (W : World), W = wr ∧ k ≤ 4 ∧ v = .int .i64 k ∧ f = .bool false ∧ Lit8 w w4.heap.size w8.heap.size x y u z a b c d p q r s (p - 1) q (p + r) q p (q - 1) p (q + s) wr) (fun v _ _ => 4 - (intOf v).toNat)
      case atStart => exact ⟨0, _, rfl, by omega, rfl, rfl, K0.out⟩
      case round =>
        obtain ⟨k, w9, rfl, hk, rfl, rfl, hj⟩ := hrel
        have J := Lib.hid hj
        clear hj K0 X k0 k1 k2 k3 k4 k5 k6 k7 k8 k9 k10 k11 v1 v2 wr1 wr2 wr3 wr4
        by_cases hk4 : k < 4
        · have hk5 : k = 0 ∨ k = 1 ∨ k = 2 ∨ k = 3 := by omega
          clear hk hk4
          obtain ⟨k0, k1, k2, k3, k4, k5, k6, k7, k8, k9, k10, k11⟩ := J.out.1.cells
          obtain ⟨sx, sy, hcx, hcy, ho⟩ : ∃ sx sy : Int, w9.cell? ⟨w8.heap.size, k * 2, none⟩ = some (.int .i64 sx) ∧ w9.cell? ⟨w8.heap.size, k * 2 + 1, none⟩ = some (.int .i64 sy) ∧ (sx < p ∨ p + r ≤ sx ∨ sy < q ∨ q + s ≤ sy) := by
            rcases hk5 with rfl | rfl | rfl | rfl
            · exact ⟨p - 1, q, J.out.2.cell 0, J.out.2.cell 1, by omega⟩
            · exact ⟨p + r, q, J.out.2.cell 2, J.out.2.cell 3, by omega⟩
            · exact ⟨p, q - 1, J.out.2.cell 4, J.out.2.cell 5, by omega⟩
            · exact ⟨p, q + s, J.out.2.cell 6, J.out.2.cell 7, by omega⟩
          have hk4 : k < 4 := by omega
          clear hk5
          have HA := Lib.hid (fun w => holds_any x y u z sx sy w)
          have HC := Lib.hid (fun w => holds_any a b c d sx sy w)
          have K1 := Lib.hid (J.out.next (made w9 (.cells #[.int .i64 sx, .int .i64 sy] 41)))
          have z1 : w.heap.size < w9.heap.size := J.out.1.2.1.lt
          have z2 : w.heap.size + 1 < w9.heap.size := J.out.1.2.2.1.lt
          have z3 : w4.heap.size < w9.heap.size := J.out.1.2.2.2.lt
          rcases HB.out.out ho with hA | ⟨hA, hC⟩
          · rw [hA] at HA
            clear HC hA ho c1 c2 c3 c4 c5 c6
            go_wp2_with fail
            refine (HA.out _).mono ?_
            rintro e w10 ⟨rfl, hb⟩
            have K2 := Lib.hid (K1.out.next hb)
            clear hb K1 HA J k0 k1 k2 k3 k4 k5 k6 k7 k8 k9 k10 k11 hcx hcy
            go_wp2_with fail
            go_roundw
            case rel => exact ⟨k + 1, _, rfl, by omega, by go_num, rfl, K2.out⟩
            case measure => simp [intOf]; omega
          · rw [hA] at HA
            rw [hC] at HC
            clear hA hC ho c1 c2 c3 c4 c5 c6
            have hB0 := (base.Blk.new w9 41 #[.int .i64 sx, .int .i64 sy])
            have BN := Lib.hid hB0
            clear hB0
            go_wp2_with fail
            refine (HA.out _).mono ?_
            rintro e w10 ⟨rfl, hb⟩
            have K2 := Lib.hid (K1.out.next hb)
            have hB1 := base.Blk.below BN.out hb (base.Blk.lt BN.out)
            have hx0 := base.Blk.cell hB1 0
            have hx1 := base.Blk.cell hB1 1
            clear hB1 BN hb K1 HA J k0 k1 k2 k3 k4 k5 k6 k7 k8 k9 k10 k11 hcx hcy
            obtain ⟨k0, k1, k2, k3, k4, k5, k6, k7, k8, k9, k10, k11⟩ := K2.out.1.cells
            go_wp2_with fail
            refine (HC.out _).mono ?_
            rintro e w11 ⟨rfl, hb⟩
            have K3 := Lib.hid (K2.out.next hb)
            clear hb K2 HC k0 k1 k2 k3 k4 k5 k6 k7 k8 k9 k10 k11 hx0 hx1
            go_wp2_with fail
            go_roundw
            case rel => exact ⟨k + 1, _, rfl, by omega, by go_num, rfl, K3.out⟩
            case measure => simp [intOf]; omega
        · have hk6 : k = 4 := by omega
          subst hk6
          have X := Lib.hid J.out.1
          clear J hk hk4 c1 c2 c3 c4 c5 c6
          have RI := Lib.hid (fun w => right_any p q r s w)
          rw [HB.out.h3] at RI
          have EQ := eq4 p q r s x y u z
          obtain ⟨sm, hsm⟩ : ∃ sm, sm = same4 p q r s x y u z := ⟨_, rfl⟩
          rw [← hsm] at EQ I
          clear hsm HB
          go_wp2_with fail
          refine wp_region_held_drew (S := (fun ws => ws.cell? ⟨w.heap.size, 0, none⟩ = some (.int .i64 x) ∧ ws.cell? ⟨w.heap.size, 1, none⟩ = some (.int .i64 y) ∧ ws.cell? ⟨w.heap.size, 2, none⟩ = some (.int .i64 u) ∧ ws.cell? ⟨w.heap.size, 3, none⟩ = some (.int .i64 z) ∧ ws.cell? ⟨w.heap.size + 1, 0, none⟩ = some (.int .i64 a) ∧ ws.cell? ⟨w.heap.size + 1, 1, none⟩ = some (.int .i64 b) ∧ ws.cell? ⟨w.heap.size + 1, 2, none⟩ = some (.int .i64 c) ∧ ws.cell? ⟨w.heap.size + 1, 3, none⟩ = some (.int .i64 d) ∧ ws.cell? ⟨w4.heap.size, 0, none⟩ = some (.int .i64 p) ∧ ws.cell? ⟨w4.heap.size, 1, none⟩ = some (.int .i64 q) ∧ ws.cell? ⟨w4.heap.size, 2, none⟩ = some (.int .i64 r) ∧ ws.cell? ⟨w4.heap.size, 3, none⟩ = some (.int .i64 s))) (by kernel_rfl) X.out.drew.cells (fun hHeld => ?_)
          have X := Lib.hid X.out.drew
          refine wpAnyH_take (i := 0) (v := ?_) rfl (by kernel_rfl) (by kernel_rfl) (by kernel_rfl) (fun _ _ _ h => h) (Or.inl ⟨by rfl, ?_⟩) (by assumption) ?_
          rotate_left
          · (intro w hSw; (try dsimp only at hSw); first | (go_simp; done) | (go_simp; with_reducible rfl))
          simp only [Act.put, List.getElem_toArray, List.getElem_cons_zero, List.getElem_cons_succ, List.setIfInBounds_toArray, List.set_cons_zero, List.set_cons_succ]
          refine wpAnyH_ready (rs := [1]) (by kernel_rfl) (by simp) ?_
          refine AllReadyH.cons rfl (fun K hK => ?_) AllReadyH.nil
          go_simp
          go_wp2_with (go_at_call 9; refine (RI.out _).mono ?_; rintro e w10 ⟨rfl, hb⟩)
          have X := Lib.hid (X.out.next hb)
          refine hK.out _ _ X.out.cells (fun hHeld2 => ?_)
          clear hK K hHeld hb
          have hHeld := hHeld2
          clear hHeld2
          refine wpAnyH_take (i := 2) (v := ?_) rfl (by kernel_rfl) (by kernel_rfl) (by kernel_rfl) (fun _ _ _ h => h) (Or.inl ⟨by rfl, ?_⟩) (by assumption) ?_
          rotate_left
          · (intro w hSw; (try dsimp only at hSw); first | (go_simp; done) | (go_simp; with_reducible rfl))
          simp only [Act.put, List.getElem_toArray, List.getElem_cons_zero, List.getElem_cons_succ, List.setIfInBounds_toArray, List.set_cons_zero, List.set_cons_succ]
          refine wpAnyH_take (i := 3) (v := ?_) rfl (by kernel_rfl) (by kernel_rfl) (by kernel_rfl) (fun _ _ _ h => h) (Or.inl ⟨by rfl, ?_⟩) (by assumption) ?_
          rotate_left
          · (intro w hSw; (try dsimp only at hSw); first | (go_simp; done) | (go_simp; with_reducible rfl))
          simp only [Act.put, List.getElem_toArray, List.getElem_cons_zero, List.getElem_cons_succ, List.setIfInBounds_toArray, List.set_cons_zero, List.set_cons_succ]
          refine wpAnyH_take (i := 4) (v := ?_) rfl (by kernel_rfl) (by kernel_rfl) (by kernel_rfl) (fun _ _ _ h => h) (Or.inl ⟨by rfl, ?_⟩) (by assumption) ?_
          rotate_left
          · (intro w hSw; (try dsimp only at hSw); first | (go_simp; done) | (go_simp; with_reducible rfl))
          simp only [Act.put, List.getElem_toArray, List.getElem_cons_zero, List.getElem_cons_succ, List.setIfInBounds_toArray, List.set_cons_zero, List.set_cons_succ]
          refine wpAnyH_take (i := 5) (v := ?_) rfl (by kernel_rfl) (by kernel_rfl) (by kernel_rfl) (fun _ _ _ h => h) (Or.inl ⟨by rfl, ?_⟩) (by assumption) ?_
          rotate_left
          · (intro w hSw; (try dsimp only at hSw); first | (go_simp; done) | (go_simp; with_reducible rfl))
          simp only [Act.put, List.getElem_toArray, List.getElem_cons_zero, List.getElem_cons_succ, List.setIfInBounds_toArray, List.set_cons_zero, List.set_cons_succ]
          refine wpAnyH_take (i := 6) (v := ?_) rfl (by kernel_rfl) (by kernel_rfl) (by kernel_rfl) (fun _ _ _ h => h) (Or.inl ⟨by rfl, ?_⟩) (by assumption) ?_
          rotate_left
          · (intro w hSw; (try dsimp only at hSw); first | (go_simp; done) | (go_simp; with_reducible rfl))
          simp only [Act.put, List.getElem_toArray, List.getElem_cons_zero, List.getElem_cons_succ, List.setIfInBounds_toArray, List.set_cons_zero, List.set_cons_succ]
          refine wpAnyH_take (i := 7) (v := ?_) rfl (by kernel_rfl) (by kernel_rfl) (by kernel_rfl) (fun _ _ _ h => h) (Or.inl ⟨by rfl, ?_⟩) (by assumption) ?_
          rotate_left
          · (intro w hSw; (try dsimp only at hSw); first | (go_simp; done) | (go_simp; with_reducible rfl))
          simp only [Act.put, List.getElem_toArray, List.getElem_cons_zero, List.getElem_cons_succ, List.setIfInBounds_toArray, List.set_cons_zero, List.set_cons_succ]
          refine wpAnyH_take (i := 8) (v := ?_) rfl (by kernel_rfl) (by kernel_rfl) (by kernel_rfl) (fun _ _ _ h => h) (Or.inl ⟨by rfl, ?_⟩) (by assumption) ?_
          rotate_left
          · (intro w hSw; (try dsimp only at hSw); first | (go_simp; done) | (go_simp; with_reducible rfl))
          simp only [Act.put, List.getElem_toArray, List.getElem_cons_zero, List.getElem_cons_succ, List.setIfInBounds_toArray, List.set_cons_zero, List.set_cons_succ]
          refine wpAnyH_take (i := 9) (v := ?_) rfl (by kernel_rfl) (by kernel_rfl) (by kernel_rfl) (fun _ _ _ h => h) (Or.inl ⟨by rfl, ?_⟩) (by assumption) ?_
          rotate_left
          · (intro w hSw; (try dsimp only at hSw); first | (go_simp; done) | (go_simp; with_reducible rfl))
          simp only [Act.put, List.getElem_toArray, List.getElem_cons_zero, List.getElem_cons_succ, List.setIfInBounds_toArray, List.set_cons_zero, List.set_cons_succ]
          refine wpAnyH_take (i := 10) (v := ?_) rfl (by kernel_rfl) (by kernel_rfl) (by kernel_rfl) (fun _ _ _ h => h) (Or.inl ⟨by rfl, ?_⟩) (by assumption) ?_
          rotate_left
          · (intro w hSw; (try dsimp only at hSw); first | (go_simp; done) | (go_simp; with_reducible rfl))
          simp only [Act.put, List.getElem_toArray, List.getElem_cons_zero, List.getElem_cons_succ, List.setIfInBounds_toArray, List.set_cons_zero, List.set_cons_succ]
          refine wpAnyH_take (i := 11) (v := ?_) rfl (by kernel_rfl) (by kernel_rfl) (by kernel_rfl) (fun _ _ _ h => h) (Or.inl ⟨by rfl, ?_⟩) (by assumption) ?_
          rotate_left
          · (intro w hSw; (try dsimp only at hSw); first | (go_simp; done) | (go_simp; with_reducible rfl))
          simp only [Act.put, List.getElem_toArray, List.getElem_cons_zero, List.getElem_cons_succ, List.setIfInBounds_toArray, List.set_cons_zero, List.set_cons_succ]
          refine wpAnyH_take (i := 13) (v := ?_) rfl (by kernel_rfl) (by kernel_rfl) (by kernel_rfl) (fun _ _ _ h => h) (Or.inl ⟨by rfl, ?_⟩) (by assumption) ?_
          rotate_left
          · (intro w hSw; (try dsimp only at hSw); first | (go_simp; done) | (go_simp; with_reducible rfl))
          simp only [Act.put, List.getElem_toArray, List.getElem_cons_zero, List.getElem_cons_succ, List.setIfInBounds_toArray, List.set_cons_zero, List.set_cons_succ]
          refine wpAnyH_take (i := 14) (v := ?_) rfl (by kernel_rfl) (by kernel_rfl) (by kernel_rfl) (fun _ _ _ h => h) (Or.inl ⟨by rfl, ?_⟩) (by assumption) ?_
          rotate_left
          · (intro w hSw; (try dsimp only at hSw); first | (go_simp; done) | (go_simp; with_reducible rfl))
          simp only [Act.put, List.getElem_toArray, List.getElem_cons_zero, List.getElem_cons_succ, List.setIfInBounds_toArray, List.set_cons_zero, List.set_cons_succ]
          refine wpAnyH_take (i := 15) (v := ?_) rfl (by kernel_rfl) (by kernel_rfl) (by kernel_rfl) (fun _ _ _ h => h) (Or.inl ⟨by rfl, ?_⟩) (by assumption) ?_
          rotate_left
          · (intro w hSw; (try dsimp only at hSw); first | (go_simp; done) | (go_simp; with_reducible rfl))
          simp only [Act.put, List.getElem_toArray, List.getElem_cons_zero, List.getElem_cons_succ, List.setIfInBounds_toArray, List.set_cons_zero, List.set_cons_succ]
          refine wpAnyH_ready (rs := [12]) (by kernel_rfl) (by simp) ?_
          refine AllReadyH.cons rfl (fun K hK => ?_) AllReadyH.nil
          go_simp
          go_wp2_with (go_at_call 21; refine (I.out _).mono ?_; rintro e w11 ⟨rfl, hb⟩)
          have X := Lib.hid (X.out.next hb)
          refine hK.out _ _ X.out.cells (fun hHeld2 => ?_)
          clear hK K hHeld hb
          have hHeld := hHeld2
          clear hHeld2
          refine wpAnyH_take (i := 16) (v := ?_) rfl (by kernel_rfl) (by kernel_rfl) (by kernel_rfl) (fun _ _ _ h => h) (Or.inl ⟨by rfl, ?_⟩) (by assumption) ?_
          rotate_left
          · (intro w hSw; (try dsimp only at hSw); first | (go_simp; done) | (go_simp; with_reducible rfl))
          simp only [Act.put, List.getElem_toArray, List.getElem_cons_zero, List.getElem_cons_succ, List.setIfInBounds_toArray, List.set_cons_zero, List.set_cons_succ]
          refine wpAnyH_take (i := 17) (v := ?_) rfl (by kernel_rfl) (by kernel_rfl) (by kernel_rfl) (fun _ _ _ h => h) (Or.inl ⟨by rfl, ?_⟩) (by assumption) ?_
          rotate_left
          · (intro w hSw; (try dsimp only at hSw); first | (go_simp; done) | (go_simp; with_reducible rfl))
          simp only [Act.put, List.getElem_toArray, List.getElem_cons_zero, List.getElem_cons_succ, List.setIfInBounds_toArray, List.set_cons_zero, List.set_cons_succ]
          refine wpAnyH_take (i := 18) (v := ?_) rfl (by kernel_rfl) (by kernel_rfl) (by kernel_rfl) (fun _ _ _ h => h) (Or.inl ⟨by rfl, ?_⟩) (by assumption) ?_
          rotate_left
          · (intro w hSw; (try dsimp only at hSw); first | (go_simp; done) | (go_simp; with_reducible rfl))
          simp only [Act.put, List.getElem_toArray, List.getElem_cons_zero, List.getElem_cons_succ, List.setIfInBounds_toArray, List.set_cons_zero, List.set_cons_succ]
          refine wpAnyH_ready (rs := [19]) (by kernel_rfl) (by simp) ?_
          refine AllReadyH.cons rfl (fun K hK => ?_) AllReadyH.nil
          go_simp
          go_wp2_with (go_at_call 14; refine (awake_any _).mono ?_; rintro e w12 ⟨rfl, hb⟩)
          have X := Lib.hid (X.out.next hb)
          refine hK.out _ _ X.out.cells (fun hHeld2 => ?_)
          clear hK K hHeld hb
          have hHeld := hHeld2
          clear hHeld2
          refine wpAnyH_take (i := 20) (v := ?_) rfl (by kernel_rfl) (by kernel_rfl) (by kernel_rfl) (fun _ _ _ h => h) (Or.inl ⟨by rfl, ?_⟩) (by assumption) ?_
          rotate_left
          · (intro w hSw; (try dsimp only at hSw); first | (go_simp; done) | (go_simp; with_reducible rfl))
          simp only [Act.put, List.getElem_toArray, List.getElem_cons_zero, List.getElem_cons_succ, List.setIfInBounds_toArray, List.set_cons_zero, List.set_cons_succ]
          refine wpAnyH_take (i := 21) (v := ?_) rfl (by kernel_rfl) (by kernel_rfl) (by kernel_rfl) (fun _ _ _ h => h) (Or.inl ⟨by rfl, ?_⟩) (by assumption) ?_
          rotate_left
          · (intro w hSw; (try dsimp only at hSw); first | (go_simp; done) | (go_simp; with_reducible rfl))
          simp only [Act.put, List.getElem_toArray, List.getElem_cons_zero, List.getElem_cons_succ, List.setIfInBounds_toArray, List.set_cons_zero, List.set_cons_succ]
          refine wpAnyH_done (by kernel_rfl) ?_ _
          go_wp2
          go_ret
          exact ⟨rfl, X.out.1⟩
end Go.Proofs.Ytognbljpmhhbkaa.rectMeets
