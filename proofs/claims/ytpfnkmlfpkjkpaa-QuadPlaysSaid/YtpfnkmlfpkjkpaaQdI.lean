/-
  Quads: the leaves of a square that meet a rectangle, handed on.
-/
import Derived.Test.YtpfnkmlfpkjkpaaQdH
import Derived.Test.YtpfnkmlfpkjkpaaRangeQ
import Derived.Test.YtpfnkmlfpkjkpaaStillIn
import Derived.Deep.RegionHeld
import Derived.RangeFuncNested
import Derived.RangeFuncBound
import Derived.RangeFuncCalls
import Derived.RangeFuncLeaves
import Derived.RangeFuncFrom
import Derived.Shelf.Abstract
import Derived.Shelf.RegionOpen
import Derived.WalkKit
import Derived.OwnWalkIn
import Derived.TacticsInMore
import Derived.LoopNIn
import Derived.LoopIn
import Derived.StillTailTactics
import Derived.Lib.Hide
namespace Go.Proofs.Ytpfnkmlfpkjkpaa.qd
open Go.RowKit Go.Shelf
open base (ret_bool ret_int made up Blk Only)
open rect rgm
set_option linter.unusedVariables false
set_option linter.unusedSimpArgs false
attribute [local go_sem] Oper.semAt_some

/-- a leaf that is told: where it is, its side, its value -/
abbrev Lf := Int × Int × Int × Nat
def Lf.args (d : Lf) : Array Value := #[(.agg #[.int .i64 d.1, .int .i64 d.2.1, .int .i64 d.2.2.1, .int .i64 d.2.2.1]), .int .i64 d.2.2.2]
def lv : Q → Nat → Int → Int → Int → Int → Int → Int → List Lf
  | .leaf v, k, x, y, a, b, c, d => if meetP x y ((2 ^ k : Nat) : Int) a b c d then [(x, y, ((2 ^ k : Nat) : Int), v)] else []
  | .node _ _ t, k, x, y, a, b, c, d => if meetP x y ((2 ^ k : Nat) : Int) a b c d then
      lv (t 0) (k - 1) (qx x (2 ^ (k - 1)) 0) (qy y (2 ^ (k - 1)) 0) a b c d ++ (lv (t 1) (k - 1) (qx x (2 ^ (k - 1)) 1) (qy y (2 ^ (k - 1)) 1) a b c d ++ (lv (t 2) (k - 1) (qx x (2 ^ (k - 1)) 2) (qy y (2 ^ (k - 1)) 2) a b c d ++ lv (t 3) (k - 1) (qx x (2 ^ (k - 1)) 3) (qy y (2 ^ (k - 1)) 3) a b c d)) else []
theorem lv_miss {q : Q} {k : Nat} {x y a b c d : Int} (h : ¬ meetP x y ((2 ^ k : Nat) : Int) a b c d) : lv q k x y a b c d = [] := by
  cases q <;> exact if_neg h
def WalkR (J : Nat → World → Prop) (X : World → Prop) (S : Nat → Prop) (n : Nat) (W : World) (e : Ending) (W' : World) : Prop :=
  (e = .returned (.bool true) ∧ J n W' ∧ Only S W W') ∨ (e = .returned (.bool false) ∧ X W' ∧ Only S W W')
def WalkOK (k : Nat) : Prop := ∀ (q : Q) (b off : Nat) (x y a bb c d : Int) (l B0 i0 : Nat) (J : Nat → World → Prop) (X : World → Prop) (S : Nat → Prop) (W : World),
  Is W q b off → q.fits k → BoxR x y ((2 ^ k : Nat) : Int) → (∀ j, S j → j < B0 ∧ j ≠ b ∧ ¬ q.blocks j) → B0 ≤ W.heap.size → J i0 W →
  (∀ m W W', J m W → Below W.heap.size W W' → J m W') →
  (∀ m W', m < (lv q k x y a bb c d).length → J (i0 + m) W' → YieldAt Fence.wide 0 Try.prog l ((lv q k x y a bb c d).getD m (0, 0, 0, 0)).args W' (WalkR J X S (i0 + m + 1) W')) →
  Calls Try.prog 43 #[.pointer (some ⟨b, off, none⟩), (.agg #[.int .i64 x, .int .i64 y, .int .i64 (((2 ^ k : Nat) : Int)), .int .i64 (((2 ^ k : Nat) : Int))]), (.agg #[.int .i64 a, .int .i64 bb, .int .i64 c, .int .i64 d]), .func (.yield l) #[] #[]] W (WalkR J X S (i0 + (lv q k x y a bb c d).length) W)
theorem only_t {S : Nat → Prop} {a b c : World} (h : Only S a b) (k : Only S b c) : Only S a c := h.trans k (fun _ _ e => e)
set_option maxRecDepth 100000 in
set_option maxHeartbeats 4000000 in
theorem walk_miss (k : Nat) (q : Q) (b off : Nat) (x y a bb c d : Int) (l B0 i0 : Nat) (J : Nat → World → Prop) (X : World → Prop) (S : Nat → Prop) (W : World)
    (hi : Is W q b off) (hf : q.fits (k)) (hbx : BoxR x y ((2 ^ (k) : Nat) : Int)) (hS : ∀ j, S j → j < B0 ∧ j ≠ b ∧ ¬ q.blocks j) (hB : B0 ≤ W.heap.size) (hj : J i0 W)
    (hJa : ∀ m W W', J m W → Below W.heap.size W W' → J m W')
    (hY : ∀ m W', m < (lv q (k) x y a bb c d).length → J (i0 + m) W' → YieldAt Fence.wide 0 Try.prog l ((lv q (k) x y a bb c d).getD m (0, 0, 0, 0)).args W' (WalkR J X S (i0 + m + 1) W')) (hm : ¬ meetP x y ((2 ^ k : Nat) : Int) a bb c d) :
    Calls Try.prog 43 #[.pointer (some ⟨b, off, none⟩), (.agg #[.int .i64 x, .int .i64 y, .int .i64 (((2 ^ (k) : Nat) : Int)), .int .i64 (((2 ^ (k) : Nat) : Int))]), (.agg #[.int .i64 a, .int .i64 bb, .int .i64 c, .int .i64 d]), .func (.yield l) #[] #[]] W (WalkR J X S (i0 + (lv q (k) x y a bb c d).length) W) := by
  obtain ⟨s, hs⟩ : ∃ s : Int, s = ((2 ^ (k) : Nat) : Int) := ⟨_, rfl⟩
  obtain ⟨w2, hw2⟩ : ∃ w2, (W.alloc (.cells #[.int .i64 x, .int .i64 y, .int .i64 s, .int .i64 s] 42)).alloc (.cells #[.int .i64 a, .int .i64 bb, .int .i64 c, .int .i64 d] 42) = w2 := ⟨_, rfl⟩
  have h02 : Only S W w2 := by rw [← hw2]; exact ((Only.refl _ W).alloc _).alloc _
  have z2 : w2.heap.size = W.heap.size + 2 := by rw [← hw2, asz, asz]
  have b5 : Blk w2 W.heap.size 42 #[.int .i64 x, .int .i64 y, .int .i64 s, .int .i64 s] := by rw [← hw2]; exact (Blk.new _ _ _).alloc _
  have b6 : Blk w2 (W.heap.size + 1) 42 #[.int .i64 a, .int .i64 bb, .int .i64 c, .int .i64 d] := by
    have := Blk.new (W.alloc (.cells #[.int .i64 x, .int .i64 y, .int .i64 s, .int .i64 s] 42)) 42 #[.int .i64 a, .int .i64 bb, .int .i64 c, .int .i64 d]
    rw [asz, hw2] at this
    exact this
  have hb02 : Below W.heap.size W w2 := by rw [← hw2]; exact up (made W _) (made _ _) (made W _).size
  have I2 := Lib.hid (hi.below hb02)
  have J2 := Lib.hid (hJa _ _ _ hj hb02)
  have O02 := Lib.hid h02
  have Z2 := Lib.hid z2
  have BX := Lib.hid hbx
  have HF := Lib.hid hf
  have HS := Lib.hid hs
  have SS := Lib.hid hS
  have HB := Lib.hid hB
  have JA := Lib.hid hJa
  have HY := Lib.hid hY
  have MT := Lib.hid (box_meets x y s a bb c d w2 (by rw [hs]; exact hbx))
  rw [← hs] at hm ⊢
  obtain ⟨x0, x1, x2, x3⟩ := b5.four
  obtain ⟨y0, y1, y2, y3⟩ := b6.four
  have B5 := Lib.hid b5
  have B6 := Lib.hid b6
  have HW2 := Lib.hid hw2
  clear hi hf hbx hS hB hj hJa hY hs h02 z2 b5 b6 hb02 hw2
  have HL := lv_miss (q := q) (k := k) (show ¬ meetP x y ((2 ^ k : Nat) : Int) a bb c d from by rw [← HS.out]; exact hm)
  rw [HL]
  clear HL HY
  go_enter Try.func43, Try.ntmps43
  go_upto_region 1 with fail
  have hw2 := HW2.out
  simp only [hw2]
  clear hw2 HW2
  rw [decide_eq_false hm] at MT
  go_wp2_with fail
  refine MT.out.mono ?_
  rintro e w3 ⟨rfl, hb3⟩
  have J3 := Lib.hid (JA.out _ _ _ J2.out hb3)
  have O3 := Lib.hid (only_t O02.out ((Only.refl S w2).below hb3 (fun i hi h => by omega)))
  clear hb3 MT hm
  go_wp2_with fail
  go_ret
  exact .inl ⟨rfl, J3.out, O3.out⟩
set_option maxRecDepth 100000 in
set_option maxHeartbeats 4000000 in
theorem walk_leaf (k v : Nat) (q : Q) (b off : Nat) (x y a bb c d : Int) (l B0 i0 : Nat) (J : Nat → World → Prop) (X : World → Prop) (S : Nat → Prop) (W : World)
    (hi : Is W q b off) (hf : q.fits (k)) (hbx : BoxR x y ((2 ^ (k) : Nat) : Int)) (hS : ∀ j, S j → j < B0 ∧ j ≠ b ∧ ¬ q.blocks j) (hB : B0 ≤ W.heap.size) (hj : J i0 W)
    (hJa : ∀ m W W', J m W → Below W.heap.size W W' → J m W')
    (hY : ∀ m W', m < (lv q (k) x y a bb c d).length → J (i0 + m) W' → YieldAt Fence.wide 0 Try.prog l ((lv q (k) x y a bb c d).getD m (0, 0, 0, 0)).args W' (WalkR J X S (i0 + m + 1) W')) (hm : meetP x y ((2 ^ k : Nat) : Int) a bb c d) (hq : q = .leaf v) :
    Calls Try.prog 43 #[.pointer (some ⟨b, off, none⟩), (.agg #[.int .i64 x, .int .i64 y, .int .i64 (((2 ^ (k) : Nat) : Int)), .int .i64 (((2 ^ (k) : Nat) : Int))]), (.agg #[.int .i64 a, .int .i64 bb, .int .i64 c, .int .i64 d]), .func (.yield l) #[] #[]] W (WalkR J X S (i0 + (lv q (k) x y a bb c d).length) W) := by
  obtain ⟨s, hs⟩ : ∃ s : Int, s = ((2 ^ (k) : Nat) : Int) := ⟨_, rfl⟩
  obtain ⟨w2, hw2⟩ : ∃ w2, (W.alloc (.cells #[.int .i64 x, .int .i64 y, .int .i64 s, .int .i64 s] 42)).alloc (.cells #[.int .i64 a, .int .i64 bb, .int .i64 c, .int .i64 d] 42) = w2 := ⟨_, rfl⟩
  have h02 : Only S W w2 := by rw [← hw2]; exact ((Only.refl _ W).alloc _).alloc _
  have z2 : w2.heap.size = W.heap.size + 2 := by rw [← hw2, asz, asz]
  have b5 : Blk w2 W.heap.size 42 #[.int .i64 x, .int .i64 y, .int .i64 s, .int .i64 s] := by rw [← hw2]; exact (Blk.new _ _ _).alloc _
  have b6 : Blk w2 (W.heap.size + 1) 42 #[.int .i64 a, .int .i64 bb, .int .i64 c, .int .i64 d] := by
    have := Blk.new (W.alloc (.cells #[.int .i64 x, .int .i64 y, .int .i64 s, .int .i64 s] 42)) 42 #[.int .i64 a, .int .i64 bb, .int .i64 c, .int .i64 d]
    rw [asz, hw2] at this
    exact this
  have hb02 : Below W.heap.size W w2 := by rw [← hw2]; exact up (made W _) (made _ _) (made W _).size
  have I2 := Lib.hid (hi.below hb02)
  have J2 := Lib.hid (hJa _ _ _ hj hb02)
  have O02 := Lib.hid h02
  have Z2 := Lib.hid z2
  have BX := Lib.hid hbx
  have HF := Lib.hid hf
  have HS := Lib.hid hs
  have SS := Lib.hid hS
  have HB := Lib.hid hB
  have JA := Lib.hid hJa
  have HY := Lib.hid hY
  have MT := Lib.hid (box_meets x y s a bb c d w2 (by rw [hs]; exact hbx))
  rw [← hs] at hm ⊢
  obtain ⟨x0, x1, x2, x3⟩ := b5.four
  obtain ⟨y0, y1, y2, y3⟩ := b6.four
  have B5 := Lib.hid b5
  have B6 := Lib.hid b6
  have HW2 := Lib.hid hw2
  clear hi hf hbx hS hB hj hJa hY hs h02 z2 b5 b6 hb02 hw2
  rw [decide_eq_true hm] at MT
  have HL := Lib.hid (show lv q (k) x y a bb c d = [(x, y, s, v)] from by rw [hq]; exact (if_pos (by rw [← HS.out]; exact hm)).trans (by rw [← HS.out]))
  have HYL := Lib.hid (fun W' (h : J i0 W') => HY.out 0 W' (by rw [HL.out]; exact Nat.zero_lt_one) h)
  rw [HL.out] at HYL
  rw [HL.out]
  clear hm HY
  refine (callsIn_wide (n := 3)).1 ?_
  refine callsIn_of_wp Try.func43 rfl trivial ?_ rfl
  simp only [Try.ntmps43, List.size_toArray, List.length_cons, List.length_nil, Nat.reduceAdd, Nat.reduceSub, Array.replicate_succ, Array.replicate_zero, List.push_toArray, List.append_toArray, List.nil_append, List.cons_append]
  refine wpIn_wide.2 ?_
  go_upto_region 1 with fail
  have hw2 := HW2.out
  simp only [hw2]
  clear hw2 HW2
  go_wp2_with fail
  refine MT.out.mono ?_
  rintro e w3 ⟨rfl, hb3⟩
  have J3 := Lib.hid (JA.out _ _ _ J2.out hb3)
  have I3 := Lib.hid (I2.out.below hb3)
  have B53 := Lib.hid (B5.out.below hb3 B5.out.lt)
  have O3 := Lib.hid (only_t O02.out ((Only.refl S w2).below hb3 (fun i hi h => by omega)))
  clear hb3 MT x0 x1 x2 x3 y0 y1 y2 y3 J2 I2 B5
  have I4 := Lib.hid (show Is w3.drew q b off from I3.out.below (Below.refl _ w3).drew)
  have J4 := Lib.hid (show J i0 w3.drew from JA.out _ _ _ J3.out (Below.refl _ w3).drew)
  have O4 := Lib.hid (show Only S W w3.drew from O3.out.drewN 1)
  have B54 := Lib.hid (show Blk w3.drew W.heap.size 42 #[.int .i64 x, .int .i64 y, .int .i64 s, .int .i64 s] from B53.out.drewN 1)
  have c1 := I3.out.c1
  subst hq
  dsimp only [Q.ptr] at c1
  go_upto_region 4 with fail
  obtain ⟨fn, tmps, assign, body, hy, hR⟩ := HYL.out _ J4.out
  have hc0 := I4.out.c0
  dsimp only [Q.val] at hc0
  obtain ⟨x0, x1, x2, x3⟩ := B54.out.four
  simp only [Lf.args, List.getD, List.getElem?_cons_zero, Option.getD_some] at hy
  have EN := Lib.hid (show i0 + 0 + 1 = i0 + [((x, y, s, v) : Lf)].length from rfl)
  rw [EN.out] at hR
  clear HYL I3 I4 J3 J4 O3 B53 B54 c1 EN
  generalize i0 + [((x, y, s, v) : Lf)].length = nn at *
  refine (wpIn_wide (n := 3)).1 ?_
  refine wpIn_region_any (by kernel_rfl) ?_
  change wpAnyIn _ _ _ _ _ _ _ _ _ (World.drew _)
  generalize w3.drew = w4 at *
  refine wpAnyIn_take (i := 0) (v := ?_) rfl rfl (by kernel_rfl) (by kernel_rfl) (by kernel_rfl) (fun _ _ _ h => h) ⟨Or.inl ⟨by rfl, ?_⟩, fun _ => rfl⟩ ?_
  rotate_left
  · (intro w; first | (go_simp; done) | (go_simp; with_reducible rfl))
  simp only [Act.put, List.getElem_toArray, List.getElem_cons_zero, List.getElem_cons_succ, List.setIfInBounds_toArray, List.set_cons_zero, List.set_cons_succ]
  refine wpAnyIn_take (i := 2) (v := ?_) rfl rfl (by kernel_rfl) (by kernel_rfl) (by kernel_rfl) (fun _ _ _ h => h) ⟨Or.inl ⟨by rfl, ?_⟩, fun _ => rfl⟩ ?_
  rotate_left
  · (intro w; first | (go_simp; done) | (go_simp; with_reducible rfl))
  simp only [Act.put, List.getElem_toArray, List.getElem_cons_zero, List.getElem_cons_succ, List.setIfInBounds_toArray, List.set_cons_zero, List.set_cons_succ]
  refine wpAnyIn_take (i := 3) (v := ?_) rfl rfl (by kernel_rfl) (by kernel_rfl) (by kernel_rfl) (fun _ _ _ h => h) ⟨Or.inl ⟨by rfl, ?_⟩, fun _ => rfl⟩ ?_
  rotate_left
  · (intro w; first | (go_simp; done) | (go_simp; with_reducible rfl))
  simp only [Act.put, List.getElem_toArray, List.getElem_cons_zero, List.getElem_cons_succ, List.setIfInBounds_toArray, List.set_cons_zero, List.set_cons_succ]
  refine wpAnyIn_take (i := 4) (v := ?_) rfl rfl (by kernel_rfl) (by kernel_rfl) (by kernel_rfl) (fun _ _ _ h => h) ⟨Or.inl ⟨by rfl, ?_⟩, fun _ => rfl⟩ ?_
  rotate_left
  · (intro w; first | (go_simp; done) | (go_simp; with_reducible rfl))
  simp only [Act.put, List.getElem_toArray, List.getElem_cons_zero, List.getElem_cons_succ, List.setIfInBounds_toArray, List.set_cons_zero, List.set_cons_succ]
  refine wpAnyIn_ready (rs := [1, 5]) (by kernel_rfl) (by simp) ?_
  refine AllReadyIn.cons rfl (fun K hK => ?_) (AllReadyIn.cons rfl (fun K hK => ?_) AllReadyIn.nil)
  · go_simp
    first | (refine hK _ _ ?_) | (refine ⟨trivial, hK _ _ ?_⟩) | (refine ⟨fun _ _ => trivial, hK _ _ ?_⟩)
    clear hK K
    refine wpAnyIn_ready (rs := [5]) (by kernel_rfl) (by simp) ?_
    refine AllReadyIn.cons rfl (fun K hK => ?_) AllReadyIn.nil
    go_simp
    first | (refine hK _ _ ?_) | (refine ⟨trivial, hK _ _ ?_⟩) | (refine ⟨fun _ _ => trivial, hK _ _ ?_⟩)
    clear hK K
    refine wpAnyIn_ready (rs := [6]) (by kernel_rfl) (by simp) ?_
    refine AllReadyIn.cons rfl (fun K hK => ?_) AllReadyIn.nil
    go_simp
    first | refine (round_deep hR).mono ?_ | refine ⟨trivial, (round_deep hR).mono ?_⟩ | refine ⟨fun h => (by cases h), (round_deep hR).mono ?_⟩
    rintro e w5 (⟨rfl, hj5, ho5⟩ | ⟨rfl, hx5, ho5⟩)
    · refine hK _ _ ?_
      clear hK K
      refine wpAnyIn_ready (rs := [7]) (by kernel_rfl) (by simp) ?_
      refine AllReadyIn.cons rfl (fun K hK => ?_) AllReadyIn.nil
      go_simp
      first | (refine hK _ _ ?_) | (refine ⟨trivial, hK _ _ ?_⟩) | (refine ⟨fun _ _ => trivial, hK _ _ ?_⟩)
      clear hK K
      refine wpAnyIn_done (by kernel_rfl) ?_ _
      have FI := Lib.hid (only_t O4.out ho5)
      have JJ := Lib.hid hj5
      clear hj5 ho5
      gi_wp2
      try go_wp2_with fail
      go_ret
      exact .inl ⟨rfl, JJ.out, FI.out⟩
    · refine hK _ _ ?_
      clear hK K
      refine wpAnyIn_ready (rs := [7]) (by kernel_rfl) (by simp) ?_
      refine AllReadyIn.cons rfl (fun K hK => ?_) AllReadyIn.nil
      go_simp
      first | (refine hK _ _ ?_) | (refine ⟨trivial, hK _ _ ?_⟩) | (refine ⟨fun _ _ => trivial, hK _ _ ?_⟩)
      clear hK K
      refine wpAnyIn_done (by kernel_rfl) ?_ _
      have FI := Lib.hid (only_t O4.out ho5)
      have JJ := Lib.hid hx5
      clear hx5 ho5
      gi_wp2
      try go_wp2_with fail
      go_ret
      exact .inr ⟨rfl, JJ.out, FI.out⟩
  · go_simp
    first | (refine hK _ _ ?_) | (refine ⟨trivial, hK _ _ ?_⟩) | (refine ⟨fun _ _ => trivial, hK _ _ ?_⟩)
    clear hK K
    refine wpAnyIn_ready (rs := [1]) (by kernel_rfl) (by simp) ?_
    refine AllReadyIn.cons rfl (fun K hK => ?_) AllReadyIn.nil
    go_simp
    first | (refine hK _ _ ?_) | (refine ⟨trivial, hK _ _ ?_⟩) | (refine ⟨fun _ _ => trivial, hK _ _ ?_⟩)
    clear hK K
    refine wpAnyIn_ready (rs := [6]) (by kernel_rfl) (by simp) ?_
    refine AllReadyIn.cons rfl (fun K hK => ?_) AllReadyIn.nil
    go_simp
    first | refine (round_deep hR).mono ?_ | refine ⟨trivial, (round_deep hR).mono ?_⟩ | refine ⟨fun h => (by cases h), (round_deep hR).mono ?_⟩
    rintro e w5 (⟨rfl, hj5, ho5⟩ | ⟨rfl, hx5, ho5⟩)
    · refine hK _ _ ?_
      clear hK K
      refine wpAnyIn_ready (rs := [7]) (by kernel_rfl) (by simp) ?_
      refine AllReadyIn.cons rfl (fun K hK => ?_) AllReadyIn.nil
      go_simp
      first | (refine hK _ _ ?_) | (refine ⟨trivial, hK _ _ ?_⟩) | (refine ⟨fun _ _ => trivial, hK _ _ ?_⟩)
      clear hK K
      refine wpAnyIn_done (by kernel_rfl) ?_ _
      have FI := Lib.hid (only_t O4.out ho5)
      have JJ := Lib.hid hj5
      clear hj5 ho5
      gi_wp2
      try go_wp2_with fail
      go_ret
      exact .inl ⟨rfl, JJ.out, FI.out⟩
    · refine hK _ _ ?_
      clear hK K
      refine wpAnyIn_ready (rs := [7]) (by kernel_rfl) (by simp) ?_
      refine AllReadyIn.cons rfl (fun K hK => ?_) AllReadyIn.nil
      go_simp
      first | (refine hK _ _ ?_) | (refine ⟨trivial, hK _ _ ?_⟩) | (refine ⟨fun _ _ => trivial, hK _ _ ?_⟩)
      clear hK K
      refine wpAnyIn_done (by kernel_rfl) ?_ _
      have FI := Lib.hid (only_t O4.out ho5)
      have JJ := Lib.hid hx5
      clear hx5 ho5
      gi_wp2
      try go_wp2_with fail
      go_ret
      exact .inr ⟨rfl, JJ.out, FI.out⟩
end Go.Proofs.Ytpfnkmlfpkjkpaa.qd
