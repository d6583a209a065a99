/-
  Quads: the leaves of a parted square that meet a rectangle, handed on.
-/
import Derived.Test.YtpfnkmlfpkjkpaaQdI
import Derived.Deep.RegionHeld
import Derived.RangeFuncNested
import Derived.RangeFuncBound
import Derived.RangeFuncCalls
import Derived.RangeFuncLeaves
import Derived.RangeFuncFrom
import Derived.Shelf.Abstract
import Derived.Shelf.RegionOpen
import Derived.WalkKit
import Derived.OwnWalkIn
import Derived.TacticsInMore
import Derived.LoopNIn
import Derived.LoopIn
import Derived.StillTailTactics
import Derived.Lib.Hide
namespace Go.Proofs.Ytpfnkmlfpkjkpaa.qd
open Go.RowKit Go.Shelf
open base (ret_bool ret_int made up Blk Only)
open rect rgm
set_option linter.unusedVariables false
set_option linter.unusedSimpArgs false
attribute [local go_sem] Oper.semAt_some

theorem getD_mid {A B C : List Lf} {m : Nat} (h : m < B.length) (d : Lf) : (A ++ (B ++ C)).getD (A.length + m) d = B.getD m d := by
  simp only [List.getD]
  rw [List.getElem?_append_right (by omega), show A.length + m - A.length = m by omega, List.getElem?_append_left h]
theorem seg {J : Nat → World → Prop} {X : World → Prop} {S : Nat → Prop} {l i0 : Nat} {L A B C : List Lf} (e : L = A ++ (B ++ C))
    (h : ∀ m W', m < L.length → J (i0 + m) W' → YieldAt Fence.wide 0 Try.prog l (L.getD m (0, 0, 0, 0)).args W' (WalkR J X S (i0 + m + 1) W')) :
    ∀ m W', m < B.length → J (i0 + A.length + m) W' → YieldAt Fence.wide 0 Try.prog l (B.getD m (0, 0, 0, 0)).args W' (WalkR J X S (i0 + A.length + m + 1) W') := fun m W' hm hj => by
  have := h (A.length + m) W' (by rw [e]; simp only [List.length_append]; omega) (by rw [← Nat.add_assoc]; exact hj)
  rw [e, getD_mid hm, ← Nat.add_assoc] at this
  exact this
def P4 (n0 n1 n2 n3 : Nat) : Nat → Nat
  | 0 => 0
  | 1 => n0
  | 2 => n0 + n1
  | 3 => n0 + n1 + n2
  | _ => n0 + n1 + n2 + n3
theorem lv_node {u g k : Nat} {t : Nat → Q} {x y a b c d : Int} {h : Int} (hh : h = ((2 ^ k : Nat) : Int)) (hm : meetP x y ((2 ^ (k + 1) : Nat) : Int) a b c d) :
    lv (.node u g t) (k + 1) x y a b c d = lv (t 0) k x y a b c d ++ (lv (t 1) k (x + h) y a b c d ++ (lv (t 2) k x (y + h) a b c d ++ lv (t 3) k (x + h) (y + h) a b c d)) := by
  have e0 : qx x (2 ^ k) 0 = x := by simp [qx]
  have e1 : qx x (2 ^ k) 1 = x + h := by simp [qx, hh]
  have e2 : qx x (2 ^ k) 2 = x := by simp [qx]
  have e3 : qx x (2 ^ k) 3 = x + h := by simp [qx, hh]
  have f0 : qy y (2 ^ k) 0 = y := by simp [qy]
  have f1 : qy y (2 ^ k) 1 = y := by simp [qy]
  have f2 : qy y (2 ^ k) 2 = y + h := by simp [qy, hh]
  have f3 : qy y (2 ^ k) 3 = y + h := by simp [qy, hh]
  refine (if_pos hm).trans ?_
  show lv (t 0) k (qx x (2 ^ k) 0) (qy y (2 ^ k) 0) a b c d ++ (lv (t 1) k (qx x (2 ^ k) 1) (qy y (2 ^ k) 1) a b c d ++ (lv (t 2) k (qx x (2 ^ k) 2) (qy y (2 ^ k) 2) a b c d ++ lv (t 3) k (qx x (2 ^ k) 3) (qy y (2 ^ k) 3) a b c d)) = _
  rw [e0, e1, e2, e3, f0, f1, f2, f3]
set_option maxRecDepth 100000 in
set_option maxHeartbeats 4000000 in
theorem walk_node (k : Nat) (ih : WalkOK k) (u g : Nat) (t : Nat → Q) (q : Q) (b off : Nat) (x y a bb c d : Int) (l B0 i0 : Nat) (J : Nat → World → Prop) (X : World → Prop) (S : Nat → Prop) (W : World)
    (hi : Is W q b off) (hf : q.fits (k + 1)) (hbx : BoxR x y ((2 ^ (k + 1) : Nat) : Int)) (hS : ∀ j, S j → j < B0 ∧ j ≠ b ∧ ¬ q.blocks j) (hB : B0 ≤ W.heap.size) (hj : J i0 W)
    (hJa : ∀ m W W', J m W → Below W.heap.size W W' → J m W')
    (hY : ∀ m W', m < (lv q (k + 1) x y a bb c d).length → J (i0 + m) W' → YieldAt Fence.wide 0 Try.prog l ((lv q (k + 1) x y a bb c d).getD m (0, 0, 0, 0)).args W' (WalkR J X S (i0 + m + 1) W')) (hm : meetP x y ((2 ^ (k + 1) : Nat) : Int) a bb c d) (hq : q = .node u g t) :
    Calls Try.prog 43 #[.pointer (some ⟨b, off, none⟩), (.agg #[.int .i64 x, .int .i64 y, .int .i64 (((2 ^ (k + 1) : Nat) : Int)), .int .i64 (((2 ^ (k + 1) : Nat) : Int))]), (.agg #[.int .i64 a, .int .i64 bb, .int .i64 c, .int .i64 d]), .func (.yield l) #[] #[]] W (WalkR J X S (i0 + (lv q (k + 1) x y a bb c d).length) W) := by
  obtain ⟨s, hs⟩ : ∃ s : Int, s = ((2 ^ (k + 1) : Nat) : Int) := ⟨_, rfl⟩
  obtain ⟨w2, hw2⟩ : ∃ w2, (W.alloc (.cells #[.int .i64 x, .int .i64 y, .int .i64 s, .int .i64 s] 42)).alloc (.cells #[.int .i64 a, .int .i64 bb, .int .i64 c, .int .i64 d] 42) = w2 := ⟨_, rfl⟩
  have h02 : Only S W w2 := by rw [← hw2]; exact ((Only.refl _ W).alloc _).alloc _
  have z2 : w2.heap.size = W.heap.size + 2 := by rw [← hw2, asz, asz]
  have b5 : Blk w2 W.heap.size 42 #[.int .i64 x, .int .i64 y, .int .i64 s, .int .i64 s] := by rw [← hw2]; exact (Blk.new _ _ _).alloc _
  have b6 : Blk w2 (W.heap.size + 1) 42 #[.int .i64 a, .int .i64 bb, .int .i64 c, .int .i64 d] := by
    have := Blk.new (W.alloc (.cells #[.int .i64 x, .int .i64 y, .int .i64 s, .int .i64 s] 42)) 42 #[.int .i64 a, .int .i64 bb, .int .i64 c, .int .i64 d]
    rw [asz, hw2] at this
    exact this
  have hb02 : Below W.heap.size W w2 := by rw [← hw2]; exact up (made W _) (made _ _) (made W _).size
  have I2 := Lib.hid (hi.below hb02)
  have J2 := Lib.hid (hJa _ _ _ hj hb02)
  have O02 := Lib.hid h02
  have Z2 := Lib.hid z2
  have BX := Lib.hid hbx
  have HF := Lib.hid hf
  have HS := Lib.hid hs
  have SS := Lib.hid hS
  have HB := Lib.hid hB
  have JA := Lib.hid hJa
  have HY := Lib.hid hY
  have MT := Lib.hid (box_meets x y s a bb c d w2 (by rw [hs]; exact hbx))
  rw [← hs] at hm ⊢
  obtain ⟨x0, x1, x2, x3⟩ := b5.four
  obtain ⟨y0, y1, y2, y3⟩ := b6.four
  have B5 := Lib.hid b5
  have B6 := Lib.hid b6
  have HW2 := Lib.hid hw2
  clear hi hf hbx hS hB hj hJa hY hs h02 z2 b5 b6 hb02 hw2
  rw [decide_eq_true hm] at MT
  obtain ⟨h, hh⟩ : ∃ h : Int, h = ((2 ^ k : Nat) : Int) := ⟨_, rfl⟩
  have HL := Lib.hid (lv_node (u := u) (g := g) (t := t) hh (show meetP x y ((2 ^ (k + 1) : Nat) : Int) a bb c d from by rw [← HS.out]; exact hm))
  subst hq
  obtain ⟨L0, hL0⟩ : ∃ L0, L0 = lv (t 0) k x y a bb c d := ⟨_, rfl⟩
  obtain ⟨L1, hL1⟩ : ∃ L1, L1 = lv (t 1) k (x + h) y a bb c d := ⟨_, rfl⟩
  obtain ⟨L2, hL2⟩ : ∃ L2, L2 = lv (t 2) k x (y + h) a bb c d := ⟨_, rfl⟩
  obtain ⟨L3, hL3⟩ : ∃ L3, L3 = lv (t 3) k (x + h) (y + h) a bb c d := ⟨_, rfl⟩
  have HL := Lib.hid (show lv (.node u g t) (k + 1) x y a bb c d = L0 ++ (L1 ++ (L2 ++ L3)) from by rw [hL0, hL1, hL2, hL3]; exact HL.out)
  have HY := Lib.hid (show ∀ m W', m < (L0 ++ (L1 ++ (L2 ++ L3))).length → J (i0 + m) W' → YieldAt Fence.wide 0 Try.prog l ((L0 ++ (L1 ++ (L2 ++ L3))).getD m (0, 0, 0, 0)).args W' (WalkR J X S (i0 + m + 1) W') from by rw [← HL.out]; exact HY.out)
  obtain ⟨n0, e0⟩ : ∃ n0, n0 = L0.length := ⟨_, rfl⟩
  obtain ⟨n1, e1⟩ : ∃ n1, n1 = L1.length := ⟨_, rfl⟩
  obtain ⟨n2, e2⟩ : ∃ n2, n2 = L2.length := ⟨_, rfl⟩
  obtain ⟨n3, e3⟩ : ∃ n3, n3 = L3.length := ⟨_, rfl⟩
  have HY0 := Lib.hid (show ∀ m W', m < n0 → J (i0 + P4 n0 n1 n2 n3 0 + m) W' → YieldAt Fence.wide 0 Try.prog l (L0.getD m (0, 0, 0, 0)).args W' (WalkR J X S (i0 + P4 n0 n1 n2 n3 0 + m + 1) W') from by
    have := seg (A := []) (B := L0) (C := L1 ++ (L2 ++ L3)) rfl HY.out
    rw [← e0] at this; exact this)
  have HY1 := Lib.hid (show ∀ m W', m < n1 → J (i0 + P4 n0 n1 n2 n3 1 + m) W' → YieldAt Fence.wide 0 Try.prog l (L1.getD m (0, 0, 0, 0)).args W' (WalkR J X S (i0 + P4 n0 n1 n2 n3 1 + m + 1) W') from by
    have := seg (A := L0) (B := L1) (C := L2 ++ L3) rfl HY.out
    rw [← e0, ← e1] at this; exact this)
  have HY2 := Lib.hid (show ∀ m W', m < n2 → J (i0 + P4 n0 n1 n2 n3 2 + m) W' → YieldAt Fence.wide 0 Try.prog l (L2.getD m (0, 0, 0, 0)).args W' (WalkR J X S (i0 + P4 n0 n1 n2 n3 2 + m + 1) W') from by
    have := seg (A := L0 ++ L1) (B := L2) (C := L3) (by simp) HY.out
    rw [List.length_append, ← e0, ← e1, ← e2] at this; exact this)
  have HY3 := Lib.hid (show ∀ m W', m < n3 → J (i0 + P4 n0 n1 n2 n3 3 + m) W' → YieldAt Fence.wide 0 Try.prog l (L3.getD m (0, 0, 0, 0)).args W' (WalkR J X S (i0 + P4 n0 n1 n2 n3 3 + m + 1) W') from by
    have := seg (A := L0 ++ (L1 ++ L2)) (B := L3) (C := []) (by simp) HY.out
    rw [List.length_append, List.length_append, ← e0, ← e1, ← e2, ← e3, ← Nat.add_assoc n0] at this; exact this)
  have HN0 := Lib.hid hL0.symm
  have HN1 := Lib.hid hL1.symm
  have HN2 := Lib.hid hL2.symm
  have HN3 := Lib.hid hL3.symm
  have E0 := Lib.hid e0
  have E1 := Lib.hid e1
  have E2 := Lib.hid e2
  have E3 := Lib.hid e3
  rw [show (lv (.node u g t) (k + 1) x y a bb c d).length = P4 n0 n1 n2 n3 4 from by rw [HL.out]; simp only [List.length_append, ← e0, ← e1, ← e2, ← e3, P4]; omega]
  have HH := Lib.hid hh
  have HS2 := Lib.hid (show s = 2 * h from by rw [HS.out, hh, Nat.pow_succ]; omega)
  have BXH := Lib.hid (show BoxR x y (2 * h) from by rw [← HS2.out, HS.out]; exact BX.out)
  clear HY HL hL0 hL1 hL2 hL3 e0 e1 e2 e3 hh hm
  go_enter Try.func43, Try.ntmps43
  go_upto_region 1 with fail
  have hw2 := HW2.out
  simp only [hw2]
  clear hw2 HW2
  go_wp2_with fail
  refine MT.out.mono ?_
  rintro e w3 ⟨rfl, hb3⟩
  have J3 := Lib.hid (JA.out _ _ _ J2.out hb3)
  have I3 := Lib.hid (I2.out.below hb3)
  have B53 := Lib.hid (B5.out.below hb3 B5.out.lt)
  have O3 := Lib.hid ((Only.refl S w2).below hb3 (fun i hi h => by omega))
  clear hb3 MT x0 x1 x2 x3 y0 y1 y2 y3 J2
  obtain ⟨x0, x1, x2, x3⟩ := B53.out.four
  have c1 := I3.out.2.1
  have QT := Lib.hid (box_quarters x y h w3 BXH.out)
  rw [← HS2.out] at QT
  clear I3
  go_wp2_with fail
  refine QT.out.mono ?_
  rintro e w5 ⟨rfl, hb5⟩
  have J5 := Lib.hid (JA.out _ _ _ J3.out hb5)
  have O5 := Lib.hid (O3.out.below hb5 (fun i hi h => by have := O3.out.size; omega))
  clear hb5 QT x0 x1 x2 x3 c1 J3 O3 B53
  go_wp2_with fail
  go_loopw [29] (fun i wr => ∃ (j : Nat) (W' : World), W' = wr ∧ j ≤ 4 ∧ i = .int .i64 j ∧ J (i0 + P4 n0 n1 n2 n3 j) wr ∧ Only S w2 wr) (fun i _ => 4 - (intOf i).toNat)
  case atStart => exact ⟨0, _, rfl, by omega, rfl, J5.out, O5.out⟩
  case round =>
  obtain ⟨j, wr, rfl, hj, rfl, hjw, how⟩ := hrel
  have JW := Lib.hid hjw
  have OW := Lib.hid how
  clear hjw how J5 O5
  rcases (show j = 0 ∨ j = 1 ∨ j = 2 ∨ j = 3 ∨ j = 4 by omega) with rfl | rfl | rfl | rfl | rfl
  · have IR := Lib.hid (I2.out.only OW.out (fun e => (SS.out _ e).2.1 rfl) (fun m hm e => (SS.out _ e).2.2 hm))
    obtain ⟨-, c1, -, ht⟩ := IR.out
    have hal : Below wr.heap.size wr (wr.alloc (.cells #[.int .i64 x, .int .i64 y, .int .i64 h, .int .i64 h] 42)).drew := (made wr _).drew
    have J9 := Lib.hid (show J (i0 + P4 n0 n1 n2 n3 0) (wr.alloc (.cells #[.int .i64 x, .int .i64 y, .int .i64 h, .int .i64 h] 42)).drew from JA.out _ _ _ JW.out hal)
    have O9 := Lib.hid (show Only S w2 (wr.alloc (.cells #[.int .i64 x, .int .i64 y, .int .i64 h, .int .i64 h] 42)).drew from (OW.out.alloc _).drewN 1)
    have B9 := Lib.hid (show Blk (wr.alloc (.cells #[.int .i64 x, .int .i64 y, .int .i64 h, .int .i64 h] 42)).drew wr.heap.size 42 #[.int .i64 x, .int .i64 y, .int .i64 h, .int .i64 h] from (Blk.new wr 42 #[.int .i64 x, .int .i64 y, .int .i64 h, .int .i64 h]).drewN 1)
    have B69 := Lib.hid (show Blk (wr.alloc (.cells #[.int .i64 x, .int .i64 y, .int .i64 h, .int .i64 h] 42)).drew (W.heap.size + 1) 42 #[.int .i64 a, .int .i64 bb, .int .i64 c, .int .i64 d] from B6.out.only O9.out (fun e => by have := (SS.out _ e).1; have := HB.out; omega))
    have I9 := Lib.hid (IR.out.below hal)
    have hC := (show ∀ m, S m → m < B0 ∧ m ≠ g ∧ ¬ (t 0).blocks m from fun m hm => ⟨(SS.out m hm).1, fun e => (SS.out m hm).2.2 (.inl e), fun e => (SS.out m hm).2.2 (.inr ⟨0, by omega, e⟩)⟩)
    have IHC := Lib.hid (ih (t 0) g 0 x y a bb c d l B0 (i0 + P4 n0 n1 n2 n3 0) J X S (wr.alloc (.cells #[.int .i64 x, .int .i64 y, .int .i64 h, .int .i64 h] 42)).drew ((ht 0 (by omega)).below hal) (HF.out 0 (by omega)) (by rw [← HH.out]; have := BXH.out; unfold BoxR at this ⊢; omega) hC (by have := HB.out; have := OW.out.size; have := Z2.out; have := hal.size; omega) J9.out JA.out (by rw [HN0.out, ← E0.out]; exact HY0.out))
    rw [HN0.out, ← E0.out, ← HH.out] at IHC
    unfold WalkR at IHC
    have K9 := Lib.hid (show ∀ m, m = b ∨ m = wr.heap.size ∨ m = W.heap.size + 1 → ¬ S m from fun m hm e => by
      have h1 := SS.out m e
      have h2 := HB.out
      have h3 := OW.out.size
      have h4 := Z2.out
      rcases hm with q | q | q
      · exact h1.2.1 q
      · omega
      · omega)
    have d1 := I9.out.2.1
    have hix := quarter_0 x y h
    obtain ⟨x0, x1, x2, x3⟩ := B9.out.four
    obtain ⟨y0, y1, y2, y3⟩ := B69.out.four
    clear hal J9 B9 B69 I9 hC ht IR
    go_upto_region 8 with fail
    generalize hwa : wr.alloc (.cells #[.int .i64 x, .int .i64 y, .int .i64 h, .int .i64 h] 42) = wa at *
    have HWA := Lib.hid hwa
    clear hwa
    have HSD := Lib.hid (show SW9 g b off wr.heap.size (W.heap.size + 1) x y h a bb c d wa.drew from ⟨d1, x0, x1, x2, x3, y0, y1, y2, y3⟩)
    refine wp_region_held_drew (S := fun ws => ws.cell? ⟨b, off + 1, none⟩ = some (.pointer (some ⟨g, 0, none⟩)) ∧ ws.cell? ⟨wr.heap.size, 0, none⟩ = some (.int .i64 x) ∧ ws.cell? ⟨wr.heap.size, 1, none⟩ = some (.int .i64 y) ∧ ws.cell? ⟨wr.heap.size, 2, none⟩ = some (.int .i64 h) ∧ ws.cell? ⟨wr.heap.size, 3, none⟩ = some (.int .i64 h) ∧ ws.cell? ⟨W.heap.size + 1, 0, none⟩ = some (.int .i64 a) ∧ ws.cell? ⟨W.heap.size + 1, 1, none⟩ = some (.int .i64 bb) ∧ ws.cell? ⟨W.heap.size + 1, 2, none⟩ = some (.int .i64 c) ∧ ws.cell? ⟨W.heap.size + 1, 3, none⟩ = some (.int .i64 d)) (by kernel_rfl) HSD.out (fun hHeld => ?_)
    generalize wa.drew = wb at *
    refine wpAnyH_take (i := 0) (v := ?_) rfl (by kernel_rfl) (by kernel_rfl) (by kernel_rfl) (fun _ _ _ h => h) (Or.inl ⟨by rfl, ?_⟩) (by assumption) ?_
    rotate_left
    · (intro w hSw; (try dsimp only at hSw); first | (go_simp; done) | (go_simp; with_reducible rfl))
    simp only [Act.put, List.getElem_toArray, List.getElem_cons_zero, List.getElem_cons_succ, List.setIfInBounds_toArray, List.set_cons_zero, List.set_cons_succ]
    refine wpAnyH_take (i := 1) (v := ?_) rfl (by kernel_rfl) (by kernel_rfl) (by kernel_rfl) (fun _ _ _ h => h) (Or.inl ⟨by rfl, ?_⟩) (by assumption) ?_
    rotate_left
    · (intro w hSw; (try dsimp only at hSw); first | (go_simp; done) | (go_simp; with_reducible rfl))
    simp only [Act.put, List.getElem_toArray, List.getElem_cons_zero, List.getElem_cons_succ, List.setIfInBounds_toArray, List.set_cons_zero, List.set_cons_succ]
    refine wpAnyH_take (i := 2) (v := ?_) rfl (by kernel_rfl) (by kernel_rfl) (by kernel_rfl) (fun _ _ _ h => h) (Or.inl ⟨by rfl, ?_⟩) (by assumption) ?_
    rotate_left
    · (intro w hSw; (try dsimp only at hSw); first | (go_simp; done) | (go_simp; with_reducible rfl))
    simp only [Act.put, List.getElem_toArray, List.getElem_cons_zero, List.getElem_cons_succ, List.setIfInBounds_toArray, List.set_cons_zero, List.set_cons_succ]
    refine wpAnyH_take (i := 3) (v := ?_) rfl (by kernel_rfl) (by kernel_rfl) (by kernel_rfl) (fun _ _ _ h => h) (Or.inl ⟨by rfl, ?_⟩) (by assumption) ?_
    rotate_left
    · (intro w hSw; (try dsimp only at hSw); first | (go_simp; done) | (go_simp; with_reducible rfl))
    simp only [Act.put, List.getElem_toArray, List.getElem_cons_zero, List.getElem_cons_succ, List.setIfInBounds_toArray, List.set_cons_zero, List.set_cons_succ]
    refine wpAnyH_take (i := 4) (v := ?_) rfl (by kernel_rfl) (by kernel_rfl) (by kernel_rfl) (fun _ _ _ h => h) (Or.inl ⟨by rfl, ?_⟩) (by assumption) ?_
    rotate_left
    · (intro w hSw; (try dsimp only at hSw); first | (go_simp; done) | (go_simp; with_reducible rfl))
    simp only [Act.put, List.getElem_toArray, List.getElem_cons_zero, List.getElem_cons_succ, List.setIfInBounds_toArray, List.set_cons_zero, List.set_cons_succ]
    refine wpAnyH_take (i := 5) (v := ?_) rfl (by kernel_rfl) (by kernel_rfl) (by kernel_rfl) (fun _ _ _ h => h) (Or.inl ⟨by rfl, ?_⟩) (by assumption) ?_
    rotate_left
    · (intro w hSw; (try dsimp only at hSw); first | (go_simp; done) | (go_simp; with_reducible rfl))
    simp only [Act.put, List.getElem_toArray, List.getElem_cons_zero, List.getElem_cons_succ, List.setIfInBounds_toArray, List.set_cons_zero, List.set_cons_succ]
    refine wpAnyH_take (i := 6) (v := ?_) rfl (by kernel_rfl) (by kernel_rfl) (by kernel_rfl) (fun _ _ _ h => h) (Or.inl ⟨by rfl, ?_⟩) (by assumption) ?_
    rotate_left
    · (intro w hSw; (try dsimp only at hSw); first | (go_simp; done) | (go_simp; with_reducible rfl))
    simp only [Act.put, List.getElem_toArray, List.getElem_cons_zero, List.getElem_cons_succ, List.setIfInBounds_toArray, List.set_cons_zero, List.set_cons_succ]
    refine wpAnyH_take (i := 7) (v := ?_) rfl (by kernel_rfl) (by kernel_rfl) (by kernel_rfl) (fun _ _ _ h => h) (Or.inl ⟨by rfl, ?_⟩) (by assumption) ?_
    rotate_left
    · (intro w hSw; (try dsimp only at hSw); first | (go_simp; done) | (go_simp; with_reducible rfl))
    simp only [Act.put, List.getElem_toArray, List.getElem_cons_zero, List.getElem_cons_succ, List.setIfInBounds_toArray, List.set_cons_zero, List.set_cons_succ]
    refine wpAnyH_take (i := 8) (v := ?_) rfl (by kernel_rfl) (by kernel_rfl) (by kernel_rfl) (fun _ _ _ h => h) (Or.inl ⟨by rfl, ?_⟩) (by assumption) ?_
    rotate_left
    · (intro w hSw; (try dsimp only at hSw); first | (go_simp; done) | (go_simp; with_reducible rfl))
    simp only [Act.put, List.getElem_toArray, List.getElem_cons_zero, List.getElem_cons_succ, List.setIfInBounds_toArray, List.set_cons_zero, List.set_cons_succ]
    refine wpAnyH_take (i := 9) (v := ?_) rfl (by kernel_rfl) (by kernel_rfl) (by kernel_rfl) (fun _ _ _ h => h) (Or.inl ⟨by rfl, ?_⟩) (by assumption) ?_
    rotate_left
    · (intro w hSw; (try dsimp only at hSw); first | (go_simp; done) | (go_simp; with_reducible rfl))
    simp only [Act.put, List.getElem_toArray, List.getElem_cons_zero, List.getElem_cons_succ, List.setIfInBounds_toArray, List.set_cons_zero, List.set_cons_succ]
    refine wpAnyH_ready (rs := [10]) (by kernel_rfl) (by simp) ?_
    refine AllReadyH.cons rfl (fun K hK => ?_) AllReadyH.nil
    go_simp
    refine IHC.out.mono ?_
    rintro e w7 (⟨rfl, hj7, ho7⟩ | ⟨rfl, hx7, ho7⟩)
    · have HS7 := Lib.hid (HSD.out.only ho7 K9.out)
      have J7 := Lib.hid (show J (i0 + P4 n0 n1 n2 n3 1) w7 from by
        have e : i0 + P4 n0 n1 n2 n3 0 + n0 = i0 + P4 n0 n1 n2 n3 1 := by simp only [P4]; omega
        rw [← e]; exact hj7)
      have O7 := Lib.hid (only_t O9.out ho7)
      refine hK.out _ _ HS7.out (fun hHeld2 => ?_)
      clear hK K hHeld
      refine wpAnyH_take (i := 11) (v := ?_) rfl (by kernel_rfl) (by kernel_rfl) (by kernel_rfl) (fun _ _ _ h => h) (Or.inl ⟨by rfl, ?_⟩) (by assumption) ?_
      rotate_left
      · (intro w hSw; (try dsimp only at hSw); first | (go_simp; done) | (go_simp; with_reducible rfl))
      simp only [Act.put, List.getElem_toArray, List.getElem_cons_zero, List.getElem_cons_succ, List.setIfInBounds_toArray, List.set_cons_zero, List.set_cons_succ]
      refine wpAnyH_done (by kernel_rfl) ?_ _
      clear hHeld2 IHC hj7 ho7 d1 x0 x1 x2 x3 y0 y1 y2 y3
      go_wp2_with fail
      exact ⟨⟨0 + 1, _, rfl, by omega, by go_num, J7.out, O7.out⟩, by simp [intOf]⟩
    · have HS7 := Lib.hid (HSD.out.only ho7 K9.out)
      have X7 := Lib.hid hx7
      have O7 := Lib.hid (only_t O02.out (only_t O9.out ho7))
      refine hK.out _ _ HS7.out (fun hHeld2 => ?_)
      clear hK K hHeld
      refine wpAnyH_take (i := 11) (v := ?_) rfl (by kernel_rfl) (by kernel_rfl) (by kernel_rfl) (fun _ _ _ h => h) (Or.inl ⟨by rfl, ?_⟩) (by assumption) ?_
      rotate_left
      · (intro w hSw; (try dsimp only at hSw); first | (go_simp; done) | (go_simp; with_reducible rfl))
      simp only [Act.put, List.getElem_toArray, List.getElem_cons_zero, List.getElem_cons_succ, List.setIfInBounds_toArray, List.set_cons_zero, List.set_cons_succ]
      refine wpAnyH_done (by kernel_rfl) ?_ _
      clear hHeld2 IHC hx7 ho7 d1 x0 x1 x2 x3 y0 y1 y2 y3
      go_wp2_with fail
      go_ret
      exact .inr ⟨rfl, X7.out, O7.out⟩
  · have IR := Lib.hid (I2.out.only OW.out (fun e => (SS.out _ e).2.1 rfl) (fun m hm e => (SS.out _ e).2.2 hm))
    obtain ⟨-, c1, -, ht⟩ := IR.out
    have hal : Below wr.heap.size wr (wr.alloc (.cells #[.int .i64 (x + h), .int .i64 y, .int .i64 h, .int .i64 h] 42)).drew := (made wr _).drew
    have J9 := Lib.hid (show J (i0 + P4 n0 n1 n2 n3 1) (wr.alloc (.cells #[.int .i64 (x + h), .int .i64 y, .int .i64 h, .int .i64 h] 42)).drew from JA.out _ _ _ JW.out hal)
    have O9 := Lib.hid (show Only S w2 (wr.alloc (.cells #[.int .i64 (x + h), .int .i64 y, .int .i64 h, .int .i64 h] 42)).drew from (OW.out.alloc _).drewN 1)
    have B9 := Lib.hid (show Blk (wr.alloc (.cells #[.int .i64 (x + h), .int .i64 y, .int .i64 h, .int .i64 h] 42)).drew wr.heap.size 42 #[.int .i64 (x + h), .int .i64 y, .int .i64 h, .int .i64 h] from (Blk.new wr 42 #[.int .i64 (x + h), .int .i64 y, .int .i64 h, .int .i64 h]).drewN 1)
    have B69 := Lib.hid (show Blk (wr.alloc (.cells #[.int .i64 (x + h), .int .i64 y, .int .i64 h, .int .i64 h] 42)).drew (W.heap.size + 1) 42 #[.int .i64 a, .int .i64 bb, .int .i64 c, .int .i64 d] from B6.out.only O9.out (fun e => by have := (SS.out _ e).1; have := HB.out; omega))
    have I9 := Lib.hid (IR.out.below hal)
    have hC := (show ∀ m, S m → m < B0 ∧ m ≠ g ∧ ¬ (t 1).blocks m from fun m hm => ⟨(SS.out m hm).1, fun e => (SS.out m hm).2.2 (.inl e), fun e => (SS.out m hm).2.2 (.inr ⟨1, by omega, e⟩)⟩)
    have IHC := Lib.hid (ih (t 1) g 2 (x + h) y a bb c d l B0 (i0 + P4 n0 n1 n2 n3 1) J X S (wr.alloc (.cells #[.int .i64 (x + h), .int .i64 y, .int .i64 h, .int .i64 h] 42)).drew ((ht 1 (by omega)).below hal) (HF.out 1 (by omega)) (by rw [← HH.out]; have := BXH.out; unfold BoxR at this ⊢; omega) hC (by have := HB.out; have := OW.out.size; have := Z2.out; have := hal.size; omega) J9.out JA.out (by rw [HN1.out, ← E1.out]; exact HY1.out))
    rw [HN1.out, ← E1.out, ← HH.out] at IHC
    unfold WalkR at IHC
    have K9 := Lib.hid (show ∀ m, m = b ∨ m = wr.heap.size ∨ m = W.heap.size + 1 → ¬ S m from fun m hm e => by
      have h1 := SS.out m e
      have h2 := HB.out
      have h3 := OW.out.size
      have h4 := Z2.out
      rcases hm with q | q | q
      · exact h1.2.1 q
      · omega
      · omega)
    have d1 := I9.out.2.1
    have hix := quarter_1 x y h
    obtain ⟨x0, x1, x2, x3⟩ := B9.out.four
    obtain ⟨y0, y1, y2, y3⟩ := B69.out.four
    clear hal J9 B9 B69 I9 hC ht IR
    go_upto_region 8 with fail
    generalize hwa : wr.alloc (.cells #[.int .i64 (x + h), .int .i64 y, .int .i64 h, .int .i64 h] 42) = wa at *
    have HWA := Lib.hid hwa
    clear hwa
    have HSD := Lib.hid (show SW9 g b off wr.heap.size (W.heap.size + 1) (x + h) y h a bb c d wa.drew from ⟨d1, x0, x1, x2, x3, y0, y1, y2, y3⟩)
    refine wp_region_held_drew (S := fun ws => ws.cell? ⟨b, off + 1, none⟩ = some (.pointer (some ⟨g, 0, none⟩)) ∧ ws.cell? ⟨wr.heap.size, 0, none⟩ = some (.int .i64 (x + h)) ∧ ws.cell? ⟨wr.heap.size, 1, none⟩ = some (.int .i64 y) ∧ ws.cell? ⟨wr.heap.size, 2, none⟩ = some (.int .i64 h) ∧ ws.cell? ⟨wr.heap.size, 3, none⟩ = some (.int .i64 h) ∧ ws.cell? ⟨W.heap.size + 1, 0, none⟩ = some (.int .i64 a) ∧ ws.cell? ⟨W.heap.size + 1, 1, none⟩ = some (.int .i64 bb) ∧ ws.cell? ⟨W.heap.size + 1, 2, none⟩ = some (.int .i64 c) ∧ ws.cell? ⟨W.heap.size + 1, 3, none⟩ = some (.int .i64 d)) (by kernel_rfl) HSD.out (fun hHeld => ?_)
    generalize wa.drew = wb at *
    refine wpAnyH_take (i := 0) (v := ?_) rfl (by kernel_rfl) (by kernel_rfl) (by kernel_rfl) (fun _ _ _ h => h) (Or.inl ⟨by rfl, ?_⟩) (by assumption) ?_
    rotate_left
    · (intro w hSw; (try dsimp only at hSw); first | (go_simp; done) | (go_simp; with_reducible rfl))
    simp only [Act.put, List.getElem_toArray, List.getElem_cons_zero, List.getElem_cons_succ, List.setIfInBounds_toArray, List.set_cons_zero, List.set_cons_succ]
    refine wpAnyH_take (i := 1) (v := ?_) rfl (by kernel_rfl) (by kernel_rfl) (by kernel_rfl) (fun _ _ _ h => h) (Or.inl ⟨by rfl, ?_⟩) (by assumption) ?_
    rotate_left
    · (intro w hSw; (try dsimp only at hSw); first | (go_simp; done) | (go_simp; with_reducible rfl))
    simp only [Act.put, List.getElem_toArray, List.getElem_cons_zero, List.getElem_cons_succ, List.setIfInBounds_toArray, List.set_cons_zero, List.set_cons_succ]
    refine wpAnyH_take (i := 2) (v := ?_) rfl (by kernel_rfl) (by kernel_rfl) (by kernel_rfl) (fun _ _ _ h => h) (Or.inl ⟨by rfl, ?_⟩) (by assumption) ?_
    rotate_left
    · (intro w hSw; (try dsimp only at hSw); first | (go_simp; done) | (go_simp; with_reducible rfl))
    simp only [Act.put, List.getElem_toArray, List.getElem_cons_zero, List.getElem_cons_succ, List.setIfInBounds_toArray, List.set_cons_zero, List.set_cons_succ]
    refine wpAnyH_take (i := 3) (v := ?_) rfl (by kernel_rfl) (by kernel_rfl) (by kernel_rfl) (fun _ _ _ h => h) (Or.inl ⟨by rfl, ?_⟩) (by assumption) ?_
    rotate_left
    · (intro w hSw; (try dsimp only at hSw); first | (go_simp; done) | (go_simp; with_reducible rfl))
    simp only [Act.put, List.getElem_toArray, List.getElem_cons_zero, List.getElem_cons_succ, List.setIfInBounds_toArray, List.set_cons_zero, List.set_cons_succ]
    refine wpAnyH_take (i := 4) (v := ?_) rfl (by kernel_rfl) (by kernel_rfl) (by kernel_rfl) (fun _ _ _ h => h) (Or.inl ⟨by rfl, ?_⟩) (by assumption) ?_
    rotate_left
    · (intro w hSw; (try dsimp only at hSw); first | (go_simp; done) | (go_simp; with_reducible rfl))
    simp only [Act.put, List.getElem_toArray, List.getElem_cons_zero, List.getElem_cons_succ, List.setIfInBounds_toArray, List.set_cons_zero, List.set_cons_succ]
    refine wpAnyH_take (i := 5) (v := ?_) rfl (by kernel_rfl) (by kernel_rfl) (by kernel_rfl) (fun _ _ _ h => h) (Or.inl ⟨by rfl, ?_⟩) (by assumption) ?_
    rotate_left
    · (intro w hSw; (try dsimp only at hSw); first | (go_simp; done) | (go_simp; with_reducible rfl))
    simp only [Act.put, List.getElem_toArray, List.getElem_cons_zero, List.getElem_cons_succ, List.setIfInBounds_toArray, List.set_cons_zero, List.set_cons_succ]
    refine wpAnyH_take (i := 6) (v := ?_) rfl (by kernel_rfl) (by kernel_rfl) (by kernel_rfl) (fun _ _ _ h => h) (Or.inl ⟨by rfl, ?_⟩) (by assumption) ?_
    rotate_left
    · (intro w hSw; (try dsimp only at hSw); first | (go_simp; done) | (go_simp; with_reducible rfl))
    simp only [Act.put, List.getElem_toArray, List.getElem_cons_zero, List.getElem_cons_succ, List.setIfInBounds_toArray, List.set_cons_zero, List.set_cons_succ]
    refine wpAnyH_take (i := 7) (v := ?_) rfl (by kernel_rfl) (by kernel_rfl) (by kernel_rfl) (fun _ _ _ h => h) (Or.inl ⟨by rfl, ?_⟩) (by assumption) ?_
    rotate_left
    · (intro w hSw; (try dsimp only at hSw); first | (go_simp; done) | (go_simp; with_reducible rfl))
    simp only [Act.put, List.getElem_toArray, List.getElem_cons_zero, List.getElem_cons_succ, List.setIfInBounds_toArray, List.set_cons_zero, List.set_cons_succ]
    refine wpAnyH_take (i := 8) (v := ?_) rfl (by kernel_rfl) (by kernel_rfl) (by kernel_rfl) (fun _ _ _ h => h) (Or.inl ⟨by rfl, ?_⟩) (by assumption) ?_
    rotate_left
    · (intro w hSw; (try dsimp only at hSw); first | (go_simp; done) | (go_simp; with_reducible rfl))
    simp only [Act.put, List.getElem_toArray, List.getElem_cons_zero, List.getElem_cons_succ, List.setIfInBounds_toArray, List.set_cons_zero, List.set_cons_succ]
    refine wpAnyH_take (i := 9) (v := ?_) rfl (by kernel_rfl) (by kernel_rfl) (by kernel_rfl) (fun _ _ _ h => h) (Or.inl ⟨by rfl, ?_⟩) (by assumption) ?_
    rotate_left
    · (intro w hSw; (try dsimp only at hSw); first | (go_simp; done) | (go_simp; with_reducible rfl))
    simp only [Act.put, List.getElem_toArray, List.getElem_cons_zero, List.getElem_cons_succ, List.setIfInBounds_toArray, List.set_cons_zero, List.set_cons_succ]
    refine wpAnyH_ready (rs := [10]) (by kernel_rfl) (by simp) ?_
    refine AllReadyH.cons rfl (fun K hK => ?_) AllReadyH.nil
    go_simp
    refine IHC.out.mono ?_
    rintro e w7 (⟨rfl, hj7, ho7⟩ | ⟨rfl, hx7, ho7⟩)
    · have HS7 := Lib.hid (HSD.out.only ho7 K9.out)
      have J7 := Lib.hid (show J (i0 + P4 n0 n1 n2 n3 2) w7 from by
        have e : i0 + P4 n0 n1 n2 n3 1 + n1 = i0 + P4 n0 n1 n2 n3 2 := by simp only [P4]; omega
        rw [← e]; exact hj7)
      have O7 := Lib.hid (only_t O9.out ho7)
      refine hK.out _ _ HS7.out (fun hHeld2 => ?_)
      clear hK K hHeld
      refine wpAnyH_take (i := 11) (v := ?_) rfl (by kernel_rfl) (by kernel_rfl) (by kernel_rfl) (fun _ _ _ h => h) (Or.inl ⟨by rfl, ?_⟩) (by assumption) ?_
      rotate_left
      · (intro w hSw; (try dsimp only at hSw); first | (go_simp; done) | (go_simp; with_reducible rfl))
      simp only [Act.put, List.getElem_toArray, List.getElem_cons_zero, List.getElem_cons_succ, List.setIfInBounds_toArray, List.set_cons_zero, List.set_cons_succ]
      refine wpAnyH_done (by kernel_rfl) ?_ _
      clear hHeld2 IHC hj7 ho7 d1 x0 x1 x2 x3 y0 y1 y2 y3
      go_wp2_with fail
      exact ⟨⟨1 + 1, _, rfl, by omega, by go_num, J7.out, O7.out⟩, by simp [intOf]⟩
    · have HS7 := Lib.hid (HSD.out.only ho7 K9.out)
      have X7 := Lib.hid hx7
      have O7 := Lib.hid (only_t O02.out (only_t O9.out ho7))
      refine hK.out _ _ HS7.out (fun hHeld2 => ?_)
      clear hK K hHeld
      refine wpAnyH_take (i := 11) (v := ?_) rfl (by kernel_rfl) (by kernel_rfl) (by kernel_rfl) (fun _ _ _ h => h) (Or.inl ⟨by rfl, ?_⟩) (by assumption) ?_
      rotate_left
      · (intro w hSw; (try dsimp only at hSw); first | (go_simp; done) | (go_simp; with_reducible rfl))
      simp only [Act.put, List.getElem_toArray, List.getElem_cons_zero, List.getElem_cons_succ, List.setIfInBounds_toArray, List.set_cons_zero, List.set_cons_succ]
      refine wpAnyH_done (by kernel_rfl) ?_ _
      clear hHeld2 IHC hx7 ho7 d1 x0 x1 x2 x3 y0 y1 y2 y3
      go_wp2_with fail
      go_ret
      exact .inr ⟨rfl, X7.out, O7.out⟩
  · have IR := Lib.hid (I2.out.only OW.out (fun e => (SS.out _ e).2.1 rfl) (fun m hm e => (SS.out _ e).2.2 hm))
    obtain ⟨-, c1, -, ht⟩ := IR.out
    have hal : Below wr.heap.size wr (wr.alloc (.cells #[.int .i64 x, .int .i64 (y + h), .int .i64 h, .int .i64 h] 42)).drew := (made wr _).drew
    have J9 := Lib.hid (show J (i0 + P4 n0 n1 n2 n3 2) (wr.alloc (.cells #[.int .i64 x, .int .i64 (y + h), .int .i64 h, .int .i64 h] 42)).drew from JA.out _ _ _ JW.out hal)
    have O9 := Lib.hid (show Only S w2 (wr.alloc (.cells #[.int .i64 x, .int .i64 (y + h), .int .i64 h, .int .i64 h] 42)).drew from (OW.out.alloc _).drewN 1)
    have B9 := Lib.hid (show Blk (wr.alloc (.cells #[.int .i64 x, .int .i64 (y + h), .int .i64 h, .int .i64 h] 42)).drew wr.heap.size 42 #[.int .i64 x, .int .i64 (y + h), .int .i64 h, .int .i64 h] from (Blk.new wr 42 #[.int .i64 x, .int .i64 (y + h), .int .i64 h, .int .i64 h]).drewN 1)
    have B69 := Lib.hid (show Blk (wr.alloc (.cells #[.int .i64 x, .int .i64 (y + h), .int .i64 h, .int .i64 h] 42)).drew (W.heap.size + 1) 42 #[.int .i64 a, .int .i64 bb, .int .i64 c, .int .i64 d] from B6.out.only O9.out (fun e => by have := (SS.out _ e).1; have := HB.out; omega))
    have I9 := Lib.hid (IR.out.below hal)
    have hC := (show ∀ m, S m → m < B0 ∧ m ≠ g ∧ ¬ (t 2).blocks m from fun m hm => ⟨(SS.out m hm).1, fun e => (SS.out m hm).2.2 (.inl e), fun e => (SS.out m hm).2.2 (.inr ⟨2, by omega, e⟩)⟩)
    have IHC := Lib.hid (ih (t 2) g 4 x (y + h) a bb c d l B0 (i0 + P4 n0 n1 n2 n3 2) J X S (wr.alloc (.cells #[.int .i64 x, .int .i64 (y + h), .int .i64 h, .int .i64 h] 42)).drew ((ht 2 (by omega)).below hal) (HF.out 2 (by omega)) (by rw [← HH.out]; have := BXH.out; unfold BoxR at this ⊢; omega) hC (by have := HB.out; have := OW.out.size; have := Z2.out; have := hal.size; omega) J9.out JA.out (by rw [HN2.out, ← E2.out]; exact HY2.out))
    rw [HN2.out, ← E2.out, ← HH.out] at IHC
    unfold WalkR at IHC
    have K9 := Lib.hid (show ∀ m, m = b ∨ m = wr.heap.size ∨ m = W.heap.size + 1 → ¬ S m from fun m hm e => by
      have h1 := SS.out m e
      have h2 := HB.out
      have h3 := OW.out.size
      have h4 := Z2.out
      rcases hm with q | q | q
      · exact h1.2.1 q
      · omega
      · omega)
    have d1 := I9.out.2.1
    have hix := quarter_2 x y h
    obtain ⟨x0, x1, x2, x3⟩ := B9.out.four
    obtain ⟨y0, y1, y2, y3⟩ := B69.out.four
    clear hal J9 B9 B69 I9 hC ht IR
    go_upto_region 8 with fail
    generalize hwa : wr.alloc (.cells #[.int .i64 x, .int .i64 (y + h), .int .i64 h, .int .i64 h] 42) = wa at *
    have HWA := Lib.hid hwa
    clear hwa
    have HSD := Lib.hid (show SW9 g b off wr.heap.size (W.heap.size + 1) x (y + h) h a bb c d wa.drew from ⟨d1, x0, x1, x2, x3, y0, y1, y2, y3⟩)
    refine wp_region_held_drew (S := fun ws => ws.cell? ⟨b, off + 1, none⟩ = some (.pointer (some ⟨g, 0, none⟩)) ∧ ws.cell? ⟨wr.heap.size, 0, none⟩ = some (.int .i64 x) ∧ ws.cell? ⟨wr.heap.size, 1, none⟩ = some (.int .i64 (y + h)) ∧ ws.cell? ⟨wr.heap.size, 2, none⟩ = some (.int .i64 h) ∧ ws.cell? ⟨wr.heap.size, 3, none⟩ = some (.int .i64 h) ∧ ws.cell? ⟨W.heap.size + 1, 0, none⟩ = some (.int .i64 a) ∧ ws.cell? ⟨W.heap.size + 1, 1, none⟩ = some (.int .i64 bb) ∧ ws.cell? ⟨W.heap.size + 1, 2, none⟩ = some (.int .i64 c) ∧ ws.cell? ⟨W.heap.size + 1, 3, none⟩ = some (.int .i64 d)) (by kernel_rfl) HSD.out (fun hHeld => ?_)
    generalize wa.drew = wb at *
    refine wpAnyH_take (i := 0) (v := ?_) rfl (by kernel_rfl) (by kernel_rfl) (by kernel_rfl) (fun _ _ _ h => h) (Or.inl ⟨by rfl, ?_⟩) (by assumption) ?_
    rotate_left
    · (intro w hSw; (try dsimp only at hSw); first | (go_simp; done) | (go_simp; with_reducible rfl))
    simp only [Act.put, List.getElem_toArray, List.getElem_cons_zero, List.getElem_cons_succ, List.setIfInBounds_toArray, List.set_cons_zero, List.set_cons_succ]
    refine wpAnyH_take (i := 1) (v := ?_) rfl (by kernel_rfl) (by kernel_rfl) (by kernel_rfl) (fun _ _ _ h => h) (Or.inl ⟨by rfl, ?_⟩) (by assumption) ?_
    rotate_left
    · (intro w hSw; (try dsimp only at hSw); first | (go_simp; done) | (go_simp; with_reducible rfl))
    simp only [Act.put, List.getElem_toArray, List.getElem_cons_zero, List.getElem_cons_succ, List.setIfInBounds_toArray, List.set_cons_zero, List.set_cons_succ]
    refine wpAnyH_take (i := 2) (v := ?_) rfl (by kernel_rfl) (by kernel_rfl) (by kernel_rfl) (fun _ _ _ h => h) (Or.inl ⟨by rfl, ?_⟩) (by assumption) ?_
    rotate_left
    · (intro w hSw; (try dsimp only at hSw); first | (go_simp; done) | (go_simp; with_reducible rfl))
    simp only [Act.put, List.getElem_toArray, List.getElem_cons_zero, List.getElem_cons_succ, List.setIfInBounds_toArray, List.set_cons_zero, List.set_cons_succ]
    refine wpAnyH_take (i := 3) (v := ?_) rfl (by kernel_rfl) (by kernel_rfl) (by kernel_rfl) (fun _ _ _ h => h) (Or.inl ⟨by rfl, ?_⟩) (by assumption) ?_
    rotate_left
    · (intro w hSw; (try dsimp only at hSw); first | (go_simp; done) | (go_simp; with_reducible rfl))
    simp only [Act.put, List.getElem_toArray, List.getElem_cons_zero, List.getElem_cons_succ, List.setIfInBounds_toArray, List.set_cons_zero, List.set_cons_succ]
    refine wpAnyH_take (i := 4) (v := ?_) rfl (by kernel_rfl) (by kernel_rfl) (by kernel_rfl) (fun _ _ _ h => h) (Or.inl ⟨by rfl, ?_⟩) (by assumption) ?_
    rotate_left
    · (intro w hSw; (try dsimp only at hSw); first | (go_simp; done) | (go_simp; with_reducible rfl))
    simp only [Act.put, List.getElem_toArray, List.getElem_cons_zero, List.getElem_cons_succ, List.setIfInBounds_toArray, List.set_cons_zero, List.set_cons_succ]
    refine wpAnyH_take (i := 5) (v := ?_) rfl (by kernel_rfl) (by kernel_rfl) (by kernel_rfl) (fun _ _ _ h => h) (Or.inl ⟨by rfl, ?_⟩) (by assumption) ?_
    rotate_left
    · (intro w hSw; (try dsimp only at hSw); first | (go_simp; done) | (go_simp; with_reducible rfl))
    simp only [Act.put, List.getElem_toArray, List.getElem_cons_zero, List.getElem_cons_succ, List.setIfInBounds_toArray, List.set_cons_zero, List.set_cons_succ]
    refine wpAnyH_take (i := 6) (v := ?_) rfl (by kernel_rfl) (by kernel_rfl) (by kernel_rfl) (fun _ _ _ h => h) (Or.inl ⟨by rfl, ?_⟩) (by assumption) ?_
    rotate_left
    · (intro w hSw; (try dsimp only at hSw); first | (go_simp; done) | (go_simp; with_reducible rfl))
    simp only [Act.put, List.getElem_toArray, List.getElem_cons_zero, List.getElem_cons_succ, List.setIfInBounds_toArray, List.set_cons_zero, List.set_cons_succ]
    refine wpAnyH_take (i := 7) (v := ?_) rfl (by kernel_rfl) (by kernel_rfl) (by kernel_rfl) (fun _ _ _ h => h) (Or.inl ⟨by rfl, ?_⟩) (by assumption) ?_
    rotate_left
    · (intro w hSw; (try dsimp only at hSw); first | (go_simp; done) | (go_simp; with_reducible rfl))
    simp only [Act.put, List.getElem_toArray, List.getElem_cons_zero, List.getElem_cons_succ, List.setIfInBounds_toArray, List.set_cons_zero, List.set_cons_succ]
    refine wpAnyH_take (i := 8) (v := ?_) rfl (by kernel_rfl) (by kernel_rfl) (by kernel_rfl) (fun _ _ _ h => h) (Or.inl ⟨by rfl, ?_⟩) (by assumption) ?_
    rotate_left
    · (intro w hSw; (try dsimp only at hSw); first | (go_simp; done) | (go_simp; with_reducible rfl))
    simp only [Act.put, List.getElem_toArray, List.getElem_cons_zero, List.getElem_cons_succ, List.setIfInBounds_toArray, List.set_cons_zero, List.set_cons_succ]
    refine wpAnyH_take (i := 9) (v := ?_) rfl (by kernel_rfl) (by kernel_rfl) (by kernel_rfl) (fun _ _ _ h => h) (Or.inl ⟨by rfl, ?_⟩) (by assumption) ?_
    rotate_left
    · (intro w hSw; (try dsimp only at hSw); first | (go_simp; done) | (go_simp; with_reducible rfl))
    simp only [Act.put, List.getElem_toArray, List.getElem_cons_zero, List.getElem_cons_succ, List.setIfInBounds_toArray, List.set_cons_zero, List.set_cons_succ]
    refine wpAnyH_ready (rs := [10]) (by kernel_rfl) (by simp) ?_
    refine AllReadyH.cons rfl (fun K hK => ?_) AllReadyH.nil
    go_simp
    refine IHC.out.mono ?_
    rintro e w7 (⟨rfl, hj7, ho7⟩ | ⟨rfl, hx7, ho7⟩)
    · have HS7 := Lib.hid (HSD.out.only ho7 K9.out)
      have J7 := Lib.hid (show J (i0 + P4 n0 n1 n2 n3 3) w7 from by
        have e : i0 + P4 n0 n1 n2 n3 2 + n2 = i0 + P4 n0 n1 n2 n3 3 := by simp only [P4]; omega
        rw [← e]; exact hj7)
      have O7 := Lib.hid (only_t O9.out ho7)
      refine hK.out _ _ HS7.out (fun hHeld2 => ?_)
      clear hK K hHeld
      refine wpAnyH_take (i := 11) (v := ?_) rfl (by kernel_rfl) (by kernel_rfl) (by kernel_rfl) (fun _ _ _ h => h) (Or.inl ⟨by rfl, ?_⟩) (by assumption) ?_
      rotate_left
      · (intro w hSw; (try dsimp only at hSw); first | (go_simp; done) | (go_simp; with_reducible rfl))
      simp only [Act.put, List.getElem_toArray, List.getElem_cons_zero, List.getElem_cons_succ, List.setIfInBounds_toArray, List.set_cons_zero, List.set_cons_succ]
      refine wpAnyH_done (by kernel_rfl) ?_ _
      clear hHeld2 IHC hj7 ho7 d1 x0 x1 x2 x3 y0 y1 y2 y3
      go_wp2_with fail
      exact ⟨⟨2 + 1, _, rfl, by omega, by go_num, J7.out, O7.out⟩, by simp [intOf]⟩
    · have HS7 := Lib.hid (HSD.out.only ho7 K9.out)
      have X7 := Lib.hid hx7
      have O7 := Lib.hid (only_t O02.out (only_t O9.out ho7))
      refine hK.out _ _ HS7.out (fun hHeld2 => ?_)
      clear hK K hHeld
      refine wpAnyH_take (i := 11) (v := ?_) rfl (by kernel_rfl) (by kernel_rfl) (by kernel_rfl) (fun _ _ _ h => h) (Or.inl ⟨by rfl, ?_⟩) (by assumption) ?_
      rotate_left
      · (intro w hSw; (try dsimp only at hSw); first | (go_simp; done) | (go_simp; with_reducible rfl))
      simp only [Act.put, List.getElem_toArray, List.getElem_cons_zero, List.getElem_cons_succ, List.setIfInBounds_toArray, List.set_cons_zero, List.set_cons_succ]
      refine wpAnyH_done (by kernel_rfl) ?_ _
      clear hHeld2 IHC hx7 ho7 d1 x0 x1 x2 x3 y0 y1 y2 y3
      go_wp2_with fail
      go_ret
      exact .inr ⟨rfl, X7.out, O7.out⟩
  · have IR := Lib.hid (I2.out.only OW.out (fun e => (SS.out _ e).2.1 rfl) (fun m hm e => (SS.out _ e).2.2 hm))
    obtain ⟨-, c1, -, ht⟩ := IR.out
    have hal : Below wr.heap.size wr (wr.alloc (.cells #[.int .i64 (x + h), .int .i64 (y + h), .int .i64 h, .int .i64 h] 42)).drew := (made wr _).drew
    have J9 := Lib.hid (show J (i0 + P4 n0 n1 n2 n3 3) (wr.alloc (.cells #[.int .i64 (x + h), .int .i64 (y + h), .int .i64 h, .int .i64 h] 42)).drew from JA.out _ _ _ JW.out hal)
    have O9 := Lib.hid (show Only S w2 (wr.alloc (.cells #[.int .i64 (x + h), .int .i64 (y + h), .int .i64 h, .int .i64 h] 42)).drew from (OW.out.alloc _).drewN 1)
    have B9 := Lib.hid (show Blk (wr.alloc (.cells #[.int .i64 (x + h), .int .i64 (y + h), .int .i64 h, .int .i64 h] 42)).drew wr.heap.size 42 #[.int .i64 (x + h), .int .i64 (y + h), .int .i64 h, .int .i64 h] from (Blk.new wr 42 #[.int .i64 (x + h), .int .i64 (y + h), .int .i64 h, .int .i64 h]).drewN 1)
    have B69 := Lib.hid (show Blk (wr.alloc (.cells #[.int .i64 (x + h), .int .i64 (y + h), .int .i64 h, .int .i64 h] 42)).drew (W.heap.size + 1) 42 #[.int .i64 a, .int .i64 bb, .int .i64 c, .int .i64 d] from B6.out.only O9.out (fun e => by have := (SS.out _ e).1; have := HB.out; omega))
    have I9 := Lib.hid (IR.out.below hal)
    have hC := (show ∀ m, S m → m < B0 ∧ m ≠ g ∧ ¬ (t 3).blocks m from fun m hm => ⟨(SS.out m hm).1, fun e => (SS.out m hm).2.2 (.inl e), fun e => (SS.out m hm).2.2 (.inr ⟨3, by omega, e⟩)⟩)
    have IHC := Lib.hid (ih (t 3) g 6 (x + h) (y + h) a bb c d l B0 (i0 + P4 n0 n1 n2 n3 3) J X S (wr.alloc (.cells #[.int .i64 (x + h), .int .i64 (y + h), .int .i64 h, .int .i64 h] 42)).drew ((ht 3 (by omega)).below hal) (HF.out 3 (by omega)) (by rw [← HH.out]; have := BXH.out; unfold BoxR at this ⊢; omega) hC (by have := HB.out; have := OW.out.size; have := Z2.out; have := hal.size; omega) J9.out JA.out (by rw [HN3.out, ← E3.out]; exact HY3.out))
    rw [HN3.out, ← E3.out, ← HH.out] at IHC
    unfold WalkR at IHC
    have K9 := Lib.hid (show ∀ m, m = b ∨ m = wr.heap.size ∨ m = W.heap.size + 1 → ¬ S m from fun m hm e => by
      have h1 := SS.out m e
      have h2 := HB.out
      have h3 := OW.out.size
      have h4 := Z2.out
      rcases hm with q | q | q
      · exact h1.2.1 q
      · omega
      · omega)
    have d1 := I9.out.2.1
    have hix := quarter_3 x y h
    obtain ⟨x0, x1, x2, x3⟩ := B9.out.four
    obtain ⟨y0, y1, y2, y3⟩ := B69.out.four
    clear hal J9 B9 B69 I9 hC ht IR
    go_upto_region 8 with fail
    generalize hwa : wr.alloc (.cells #[.int .i64 (x + h), .int .i64 (y + h), .int .i64 h, .int .i64 h] 42) = wa at *
    have HWA := Lib.hid hwa
    clear hwa
    have HSD := Lib.hid (show SW9 g b off wr.heap.size (W.heap.size + 1) (x + h) (y + h) h a bb c d wa.drew from ⟨d1, x0, x1, x2, x3, y0, y1, y2, y3⟩)
    refine wp_region_held_drew (S := fun ws => ws.cell? ⟨b, off + 1, none⟩ = some (.pointer (some ⟨g, 0, none⟩)) ∧ ws.cell? ⟨wr.heap.size, 0, none⟩ = some (.int .i64 (x + h)) ∧ ws.cell? ⟨wr.heap.size, 1, none⟩ = some (.int .i64 (y + h)) ∧ ws.cell? ⟨wr.heap.size, 2, none⟩ = some (.int .i64 h) ∧ ws.cell? ⟨wr.heap.size, 3, none⟩ = some (.int .i64 h) ∧ ws.cell? ⟨W.heap.size + 1, 0, none⟩ = some (.int .i64 a) ∧ ws.cell? ⟨W.heap.size + 1, 1, none⟩ = some (.int .i64 bb) ∧ ws.cell? ⟨W.heap.size + 1, 2, none⟩ = some (.int .i64 c) ∧ ws.cell? ⟨W.heap.size + 1, 3, none⟩ = some (.int .i64 d)) (by kernel_rfl) HSD.out (fun hHeld => ?_)
    generalize wa.drew = wb at *
    refine wpAnyH_take (i := 0) (v := ?_) rfl (by kernel_rfl) (by kernel_rfl) (by kernel_rfl) (fun _ _ _ h => h) (Or.inl ⟨by rfl, ?_⟩) (by assumption) ?_
    rotate_left
    · (intro w hSw; (try dsimp only at hSw); first | (go_simp; done) | (go_simp; with_reducible rfl))
    simp only [Act.put, List.getElem_toArray, List.getElem_cons_zero, List.getElem_cons_succ, List.setIfInBounds_toArray, List.set_cons_zero, List.set_cons_succ]
    refine wpAnyH_take (i := 1) (v := ?_) rfl (by kernel_rfl) (by kernel_rfl) (by kernel_rfl) (fun _ _ _ h => h) (Or.inl ⟨by rfl, ?_⟩) (by assumption) ?_
    rotate_left
    · (intro w hSw; (try dsimp only at hSw); first | (go_simp; done) | (go_simp; with_reducible rfl))
    simp only [Act.put, List.getElem_toArray, List.getElem_cons_zero, List.getElem_cons_succ, List.setIfInBounds_toArray, List.set_cons_zero, List.set_cons_succ]
    refine wpAnyH_take (i := 2) (v := ?_) rfl (by kernel_rfl) (by kernel_rfl) (by kernel_rfl) (fun _ _ _ h => h) (Or.inl ⟨by rfl, ?_⟩) (by assumption) ?_
    rotate_left
    · (intro w hSw; (try dsimp only at hSw); first | (go_simp; done) | (go_simp; with_reducible rfl))
    simp only [Act.put, List.getElem_toArray, List.getElem_cons_zero, List.getElem_cons_succ, List.setIfInBounds_toArray, List.set_cons_zero, List.set_cons_succ]
    refine wpAnyH_take (i := 3) (v := ?_) rfl (by kernel_rfl) (by kernel_rfl) (by kernel_rfl) (fun _ _ _ h => h) (Or.inl ⟨by rfl, ?_⟩) (by assumption) ?_
    rotate_left
    · (intro w hSw; (try dsimp only at hSw); first | (go_simp; done) | (go_simp; with_reducible rfl))
    simp only [Act.put, List.getElem_toArray, List.getElem_cons_zero, List.getElem_cons_succ, List.setIfInBounds_toArray, List.set_cons_zero, List.set_cons_succ]
    refine wpAnyH_take (i := 4) (v := ?_) rfl (by kernel_rfl) (by kernel_rfl) (by kernel_rfl) (fun _ _ _ h => h) (Or.inl ⟨by rfl, ?_⟩) (by assumption) ?_
    rotate_left
    · (intro w hSw; (try dsimp only at hSw); first | (go_simp; done) | (go_simp; with_reducible rfl))
    simp only [Act.put, List.getElem_toArray, List.getElem_cons_zero, List.getElem_cons_succ, List.setIfInBounds_toArray, List.set_cons_zero, List.set_cons_succ]
    refine wpAnyH_take (i := 5) (v := ?_) rfl (by kernel_rfl) (by kernel_rfl) (by kernel_rfl) (fun _ _ _ h => h) (Or.inl ⟨by rfl, ?_⟩) (by assumption) ?_
    rotate_left
    · (intro w hSw; (try dsimp only at hSw); first | (go_simp; done) | (go_simp; with_reducible rfl))
    simp only [Act.put, List.getElem_toArray, List.getElem_cons_zero, List.getElem_cons_succ, List.setIfInBounds_toArray, List.set_cons_zero, List.set_cons_succ]
    refine wpAnyH_take (i := 6) (v := ?_) rfl (by kernel_rfl) (by kernel_rfl) (by kernel_rfl) (fun _ _ _ h => h) (Or.inl ⟨by rfl, ?_⟩) (by assumption) ?_
    rotate_left
    · (intro w hSw; (try dsimp only at hSw); first | (go_simp; done) | (go_simp; with_reducible rfl))
    simp only [Act.put, List.getElem_toArray, List.getElem_cons_zero, List.getElem_cons_succ, List.setIfInBounds_toArray, List.set_cons_zero, List.set_cons_succ]
    refine wpAnyH_take (i := 7) (v := ?_) rfl (by kernel_rfl) (by kernel_rfl) (by kernel_rfl) (fun _ _ _ h => h) (Or.inl ⟨by rfl, ?_⟩) (by assumption) ?_
    rotate_left
    · (intro w hSw; (try dsimp only at hSw); first | (go_simp; done) | (go_simp; with_reducible rfl))
    simp only [Act.put, List.getElem_toArray, List.getElem_cons_zero, List.getElem_cons_succ, List.setIfInBounds_toArray, List.set_cons_zero, List.set_cons_succ]
    refine wpAnyH_take (i := 8) (v := ?_) rfl (by kernel_rfl) (by kernel_rfl) (by kernel_rfl) (fun _ _ _ h => h) (Or.inl ⟨by rfl, ?_⟩) (by assumption) ?_
    rotate_left
    · (intro w hSw; (try dsimp only at hSw); first | (go_simp; done) | (go_simp; with_reducible rfl))
    simp only [Act.put, List.getElem_toArray, List.getElem_cons_zero, List.getElem_cons_succ, List.setIfInBounds_toArray, List.set_cons_zero, List.set_cons_succ]
    refine wpAnyH_take (i := 9) (v := ?_) rfl (by kernel_rfl) (by kernel_rfl) (by kernel_rfl) (fun _ _ _ h => h) (Or.inl ⟨by rfl, ?_⟩) (by assumption) ?_
    rotate_left
    · (intro w hSw; (try dsimp only at hSw); first | (go_simp; done) | (go_simp; with_reducible rfl))
    simp only [Act.put, List.getElem_toArray, List.getElem_cons_zero, List.getElem_cons_succ, List.setIfInBounds_toArray, List.set_cons_zero, List.set_cons_succ]
    refine wpAnyH_ready (rs := [10]) (by kernel_rfl) (by simp) ?_
    refine AllReadyH.cons rfl (fun K hK => ?_) AllReadyH.nil
    go_simp
    refine IHC.out.mono ?_
    rintro e w7 (⟨rfl, hj7, ho7⟩ | ⟨rfl, hx7, ho7⟩)
    · have HS7 := Lib.hid (HSD.out.only ho7 K9.out)
      have J7 := Lib.hid (show J (i0 + P4 n0 n1 n2 n3 4) w7 from by
        have e : i0 + P4 n0 n1 n2 n3 3 + n3 = i0 + P4 n0 n1 n2 n3 4 := by simp only [P4]; omega
        rw [← e]; exact hj7)
      have O7 := Lib.hid (only_t O9.out ho7)
      refine hK.out _ _ HS7.out (fun hHeld2 => ?_)
      clear hK K hHeld
      refine wpAnyH_take (i := 11) (v := ?_) rfl (by kernel_rfl) (by kernel_rfl) (by kernel_rfl) (fun _ _ _ h => h) (Or.inl ⟨by rfl, ?_⟩) (by assumption) ?_
      rotate_left
      · (intro w hSw; (try dsimp only at hSw); first | (go_simp; done) | (go_simp; with_reducible rfl))
      simp only [Act.put, List.getElem_toArray, List.getElem_cons_zero, List.getElem_cons_succ, List.setIfInBounds_toArray, List.set_cons_zero, List.set_cons_succ]
      refine wpAnyH_done (by kernel_rfl) ?_ _
      clear hHeld2 IHC hj7 ho7 d1 x0 x1 x2 x3 y0 y1 y2 y3
      go_wp2_with fail
      exact ⟨⟨3 + 1, _, rfl, by omega, by go_num, J7.out, O7.out⟩, by simp [intOf]⟩
    · have HS7 := Lib.hid (HSD.out.only ho7 K9.out)
      have X7 := Lib.hid hx7
      have O7 := Lib.hid (only_t O02.out (only_t O9.out ho7))
      refine hK.out _ _ HS7.out (fun hHeld2 => ?_)
      clear hK K hHeld
      refine wpAnyH_take (i := 11) (v := ?_) rfl (by kernel_rfl) (by kernel_rfl) (by kernel_rfl) (fun _ _ _ h => h) (Or.inl ⟨by rfl, ?_⟩) (by assumption) ?_
      rotate_left
      · (intro w hSw; (try dsimp only at hSw); first | (go_simp; done) | (go_simp; with_reducible rfl))
      simp only [Act.put, List.getElem_toArray, List.getElem_cons_zero, List.getElem_cons_succ, List.setIfInBounds_toArray, List.set_cons_zero, List.set_cons_succ]
      refine wpAnyH_done (by kernel_rfl) ?_ _
      clear hHeld2 IHC hx7 ho7 d1 x0 x1 x2 x3 y0 y1 y2 y3
      go_wp2_with fail
      go_ret
      exact .inr ⟨rfl, X7.out, O7.out⟩
  · have FIN := Lib.hid (only_t O02.out OW.out)
    go_wp2_with fail
    go_ret
    exact .inl ⟨rfl, JW.out, FIN.out⟩
theorem walk_ok : ∀ k, WalkOK k
  | 0 => fun q b off x y a bb c d l B0 i0 J X S W hi hf hbx hS hB hj hJa hY => by
    by_cases hm : meetP x y ((2 ^ 0 : Nat) : Int) a bb c d
    · cases q with
      | leaf v => exact walk_leaf 0 v _ b off x y a bb c d l B0 i0 J X S W hi hf hbx hS hB hj hJa hY hm rfl
      | node u g t => exact hf.elim
    · exact walk_miss 0 q b off x y a bb c d l B0 i0 J X S W hi hf hbx hS hB hj hJa hY hm
  | k + 1 => fun q b off x y a bb c d l B0 i0 J X S W hi hf hbx hS hB hj hJa hY => by
    have ih := walk_ok k
    by_cases hm : meetP x y ((2 ^ (k + 1) : Nat) : Int) a bb c d
    · cases q with
      | leaf v => exact walk_leaf (k + 1) v _ b off x y a bb c d l B0 i0 J X S W hi hf hbx hS hB hj hJa hY hm rfl
      | node u g t => exact walk_node k ih u g t _ b off x y a bb c d l B0 i0 J X S W hi hf hbx hS hB hj hJa hY hm rfl
    · exact walk_miss (k + 1) q b off x y a bb c d l B0 i0 J X S W hi hf hbx hS hB hj hJa hY hm
end Go.Proofs.Ytpfnkmlfpkjkpaa.qd
