/-
  R-trees: rows of entries made and joined.
-/
import Derived.Test.YtndhdpjgnepfnaaTrJ
import Derived.Lib.AppendZeros
namespace Go.Proofs.Ytndhdpjgnepfnaa.tr
open Go.RowKit
open base (ret_bool ret_int made up Blk Only)
open rk (Lay)
open rect
set_option linter.unusedVariables false
set_option linter.unusedSimpArgs false
attribute [local go_sem] Oper.semAt_some

set_option maxRecDepth 100000 in
set_option maxHeartbeats 4000000 in
theorem grow_any (n : Nat) (hn : 0 < n) (hn2 : n ≤ 100000) (w : World) : Calls Try.prog 64 #[.slice none 0 0, .int .i64 n] w fun e w' => ∃ v, e = .returned v ∧ rk.Own E6 w' w.heap.size 79 v [] ∧ Below w.heap.size w w' := by
  obtain ⟨i, hi, hz0, hz1, hz2⟩ := info_parts T6.info
  have hr := fun W ty => Lib.run_append_nil_zeros (P := Try.prog) W 60 3 ty 79 i (.agg #[.int .i64 0, .int .i64 0, .int .i64 0, .int .i64 0, .pointer none, .int .i64 0]) .i64 .i64 Try.underlying60 Try.underlying3 hi hz0 n hn (by rw [hz1]; decide) (by omega) (by rw [hz2]; omega)
  have hge := grownCap_ge w n 0 79
  have hle : grownCap w n 0 79 ≤ maxLen := grownCap_le_maxLen w n 0 79 (by unfold maxLen; omega)
  unfold maxLen at hle
  have OW := Lib.hid (show rk.Own E6 (w.drew.alloc (.cells (Builtin.zeroCells (Value.agg #[.int .i64 0, .int .i64 0, .int .i64 0, .int .i64 0, .pointer none, .int .i64 0]).cells n ++ Builtin.zeroCells (Value.agg #[.int .i64 0, .int .i64 0, .int .i64 0, .int .i64 0, .pointer none, .int .i64 0]).cells (grownCap w n 0 79 - n)) 79)) w.heap.size 79 (.slice (some ⟨w.heap.size, 0, none⟩) 0 (grownCap w n 0 79)) [] from
    ⟨rfl, .inr ⟨w.heap.size, _, _, rfl, Nat.le_refl _, heap_alloc_new w.drew _, Nat.zero_le _, by unfold maxLen; omega, by
      have : (Value.agg #[.int .i64 0, .int .i64 0, .int .i64 0, .int .i64 0, .pointer none, .int .i64 0]).cells.size = 6 := by first | rfl | decide
      rw [Array.size_append, size_zeroCells, size_zeroCells, this, ← Nat.add_mul, Nat.add_sub_cancel' (by omega)]
      rfl, by simp [rk.flat]⟩⟩)
  have BL := Lib.hid (show Below w.heap.size w (w.drew.alloc (.cells (Builtin.zeroCells (Value.agg #[.int .i64 0, .int .i64 0, .int .i64 0, .int .i64 0, .pointer none, .int .i64 0]).cells n ++ Builtin.zeroCells (Value.agg #[.int .i64 0, .int .i64 0, .int .i64 0, .int .i64 0, .pointer none, .int .i64 0]).cells (grownCap w n 0 79 - n)) 79)) from (Below.refl w.heap.size w).drew.alloc (Nat.le_refl _) _)
  have HR := Lib.hid (hr w 60)
  clear hr
  generalize (w.drew.alloc (.cells (Builtin.zeroCells (Value.agg #[.int .i64 0, .int .i64 0, .int .i64 0, .int .i64 0, .pointer none, .int .i64 0]).cells n ++ Builtin.zeroCells (Value.agg #[.int .i64 0, .int .i64 0, .int .i64 0, .int .i64 0, .pointer none, .int .i64 0]).cells (grownCap w n 0 79 - n)) 79)) = w5 at *
  generalize grownCap w n 0 79 = gc at *
  have t1 : decide ((n : Int) < 0) = false := decide_eq_false (by omega)
  have t2 : decide ((n : Int) > 0) = true := decide_eq_true (by omega)
  have t3 : decide (0 < (n : Int)) = true := decide_eq_true (by omega)
  go_enter Try.func64, Try.ntmps64
  go_wp2_with (at_builtin; refine Lib.wpList_append_run _ rfl _ _ _ _ rfl _ _ rfl rfl _ _ HR.out ?_)
  go_ret
  exact ⟨_, rfl, OW.out, BL.out⟩

set_option maxRecDepth 100000 in
set_option maxHeartbeats 8000000 in
theorem concat_any (q : Nat) (A1 A2 A3 : Option Addr) (c1 c2 c3 : Nat) (l1 l2 l3 : List En) (w : World) (hq : Blk w q 60 #[.slice A1 l1.length c1, .slice A2 l2.length c2, .slice A3 l3.length c3]) (L1 : Lay E6 w A1 l1) (L2 : Lay E6 w A2 l2) (L3 : Lay E6 w A3 l3) (h0 : 0 < l1.length + l2.length + l3.length) (h1 : l1.length + l2.length + l3.length ≤ 1000) :
    Calls Try.prog 60 #[.slice (some ⟨q, 0, none⟩) 3 3] w fun e w' => ∃ v, e = .returned v ∧ rk.Own E6 w' w.heap.size 79 v (l1 ++ l2 ++ l3) ∧ Below w.heap.size w w' := by
  have M1 := Lib.hid L1
  have M2 := Lib.hid L2
  have M3 := Lib.hid L3
  have HQ := Lib.hid hq
  obtain ⟨n1, e1⟩ : ∃ n, n = l1.length := ⟨_, rfl⟩
  obtain ⟨n2, e2⟩ : ∃ n, n = l2.length := ⟨_, rfl⟩
  obtain ⟨n3, e3⟩ : ∃ n, n = l3.length := ⟨_, rfl⟩
  have E1 := Lib.hid e1
  have E2 := Lib.hid e2
  have E3 := Lib.hid e3
  rw [← e1, ← e2, ← e3] at h0 h1
  clear L1 L2 L3 e1 e2 e3
  clear hq
  go_enter Try.func60, Try.ntmps60
  go_wp2_with fail
  go_loopw [3, 11] (fun x i wr => ∃ W : World, W = wr ∧ Below w.heap.size w wr ∧ ((i = .int .i64 0 ∧ x = .int .i64 0) ∨ (i = .int .i64 1 ∧ x = .int .i64 n1) ∨ (i = .int .i64 2 ∧ x = .int .i64 (n1 + n2 : Nat)) ∨ (i = .int .i64 3 ∧ x = .int .i64 (n1 + n2 + n3 : Nat)))) (fun _ i _ => 3 - (intOf i).toNat)
  case atStart => exact ⟨_, rfl, Below.refl _ _, Or.inl ⟨rfl, rfl⟩⟩
  case round =>
  obtain ⟨w6, rfl, hb6, hrel⟩ := hrel
  have B6 := Lib.hid hb6
  have hq := HQ.out.below hb6 HQ.out.lt
  rw [← E1.out, ← E2.out, ← E3.out] at hq
  have k0 := hq.cell 0
  have k1 := hq.cell 1
  have k2 := hq.cell 2
  clear hq hb6
  rcases hrel with ⟨rfl, rfl⟩ | ⟨rfl, rfl⟩ | ⟨rfl, rfl⟩ | ⟨rfl, rfl⟩
  · have t1 : decide ((n1 : Int) < 0) = false := decide_eq_false (by omega)
    go_wp2_with fail
    exact ⟨⟨_, rfl, B6.out, Or.inr (Or.inl ⟨rfl, by go_num⟩)⟩, by simp [intOf]⟩
  · have t1 : decide (((n1 : Int) + (n2 : Int)) < 0) = false := decide_eq_false (by omega)
    have t2 : IntKind.i64.wrap ((n1 : Int) + (n2 : Int)) = (n1 : Int) + (n2 : Int) := IntWalk.i64_in _ (by omega)
    go_wp2_with fail
    exact ⟨⟨_, rfl, B6.out, Or.inr (Or.inr (Or.inl ⟨rfl, by go_num⟩))⟩, by simp [intOf]⟩
  · have t1 : decide ((n1 : Int) + (n2 : Int) + (n3 : Int) < 0) = false := decide_eq_false (by omega)
    have t2 : IntKind.i64.wrap ((n1 : Int) + (n2 : Int) + (n3 : Int)) = (n1 : Int) + (n2 : Int) + (n3 : Int) := IntWalk.i64_in _ (by omega)
    go_wp2_with fail
    exact ⟨⟨_, rfl, B6.out, Or.inr (Or.inr (Or.inr ⟨rfl, by go_num⟩))⟩, by simp [intOf]⟩
  · have GR := Lib.hid (grow_any (n1 + n2 + n3) h0 (by omega) w6)
    go_wp2_with fail
    refine GR.out.mono ?_
    rintro e w1 ⟨v1, rfl, ho1, hb1⟩
    have B1 := Lib.hid (up B6.out hb1 B6.out.size)
    have O1 := Lib.hid (rk.Own.mono ho1 B6.out.size)
    obtain ⟨Ax, cx, rfl, -⟩ := ho1.open_
    clear hb1 ho1 k0 k1 k2 GR
    go_wp2_with fail
    go_loopw [6, 27] (fun x i wr => ∃ (W : World) (l : List En), W = wr ∧ Below w.heap.size w wr ∧ rk.Own E6 wr w.heap.size 79 x l ∧ ((i = .int .i64 0 ∧ l = []) ∨ (i = .int .i64 1 ∧ l = l1) ∨ (i = .int .i64 2 ∧ l = l1 ++ l2) ∨ (i = .int .i64 3 ∧ l = l1 ++ l2 ++ l3))) (fun _ i _ => 3 - (intOf i).toNat)
    case atStart => exact ⟨_, [], rfl, B1.out, O1.out, Or.inl ⟨rfl, rfl⟩⟩
    case round =>
    obtain ⟨w7, l, rfl, hb7, ho7, hrel⟩ := hrel
    have B7 := Lib.hid hb7
    have O7 := Lib.hid ho7
    have hq := HQ.out.below hb7 HQ.out.lt
    have N1 := Lib.hid (M1.out.keep (fun k hk _ => hb7.block k hk))
    have N2 := Lib.hid (M2.out.keep (fun k hk _ => hb7.block k hk))
    have N3 := Lib.hid (M3.out.keep (fun k hk _ => hb7.block k hk))
    rw [← E1.out, ← E2.out, ← E3.out] at hq
    have k0 := hq.cell 0
    have k1 := hq.cell 1
    have k2 := hq.cell 2
    have LN := Lib.hid h1
    obtain ⟨Ay, cy, rfl, -⟩ := ho7.open_
    clear hq hb7 ho7 O1 B1
    rcases hrel with ⟨rfl, rfl⟩ | ⟨rfl, rfl⟩ | ⟨rfl, rfl⟩ | ⟨rfl, rfl⟩
    · go_wp2_with ((with_reducible show wpList _ _ _ (⟨some 33, _, _, _, _, _⟩ :: _) _ _); go_must (refine rk.wp_app T6 (M := l1) (c := c1) (n := n1) rfl _ _ rfl rfl rfl rfl E1.out O7.out N1.out (by have := LN.out; rw [E1.out, E2.out, E3.out] at this; simp; omega) B7.out.size ?_))
      intro v8 w8 own8 gr8
      have B8 := Lib.hid (B7.out.trans (gr8.below O7.out B7.out.size))
      have O8 := Lib.hid own8
      obtain ⟨A8, c8, rfl, -⟩ := own8.open_
      clear own8 gr8 O7 B7 N1 N2 N3
      go_wp2_with fail
      exact ⟨⟨_, _, rfl, B8.out, O8.out, Or.inr (Or.inl ⟨rfl, rfl⟩)⟩, by simp [intOf]⟩
    · go_wp2_with ((with_reducible show wpList _ _ _ (⟨some 33, _, _, _, _, _⟩ :: _) _ _); go_must (refine rk.wp_app T6 (M := l2) (c := c2) (n := n2) rfl _ _ rfl rfl rfl rfl E2.out O7.out N2.out (by have := LN.out; rw [E1.out, E2.out, E3.out] at this; simp; omega) B7.out.size ?_))
      intro v8 w8 own8 gr8
      have B8 := Lib.hid (B7.out.trans (gr8.below O7.out B7.out.size))
      have O8 := Lib.hid own8
      obtain ⟨A8, c8, rfl, -⟩ := own8.open_
      clear own8 gr8 O7 B7 N1 N2 N3
      go_wp2_with fail
      exact ⟨⟨_, _, rfl, B8.out, O8.out, Or.inr (Or.inr (Or.inl ⟨rfl, rfl⟩))⟩, by simp [intOf]⟩
    · go_wp2_with ((with_reducible show wpList _ _ _ (⟨some 33, _, _, _, _, _⟩ :: _) _ _); go_must (refine rk.wp_app T6 (M := l3) (c := c3) (n := n3) rfl _ _ rfl rfl rfl rfl E3.out O7.out N3.out (by have := LN.out; rw [E1.out, E2.out, E3.out] at this; simp; omega) B7.out.size ?_))
      intro v8 w8 own8 gr8
      have O9 : rk.Own E6 w7 w.heap.size 79 (.slice Ay (l1.length + l2.length) cy) (l1 ++ l2) := by
        have := O7.out
        rwa [List.length_append] at this
      have B8 := Lib.hid (B7.out.trans (gr8.below O9 B7.out.size))
      have O8 := Lib.hid own8
      obtain ⟨A8, c8, rfl, -⟩ := own8.open_
      clear own8 gr8 O9 O7 B7 N1 N2 N3
      go_wp2_with fail
      exact ⟨⟨_, _, rfl, B8.out, O8.out, Or.inr (Or.inr (Or.inr ⟨rfl, (List.append_assoc _ _ _).symm⟩))⟩, by simp [intOf]⟩
    · go_wp2_with fail
      go_ret
      exact ⟨_, rfl, O7.out, B7.out⟩
end Go.Proofs.Ytndhdpjgnepfnaa.tr
