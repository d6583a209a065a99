/-
  The tiles of a rectangle: what the function that is ranged over hands out, in its order.
-/
import Derived.Test.YtognbljpmhhbkaaRectB
import Derived.Test.YtognbljpmhhbkaaStillIn
import Derived.RangeFuncNested
import Derived.RangeFuncBound
import Derived.RangeFuncCalls
import Derived.RangeFuncLeaves
import Derived.RangeFuncFrom
import Derived.Shelf.Abstract
import Derived.Shelf.RegionOpen
import Derived.WalkKit
import Derived.OwnWalkIn
import Derived.TacticsInMore
import Derived.LoopNIn
import Derived.LoopIn
import Derived.StillTailTactics
import Derived.Lib.Hide
namespace Go.Proofs.Ytognbljpmhhbkaa.tiles
open Go.RowKit Go.Shelf
open rect
open base (Blk Only up)
set_option linter.unusedVariables false
set_option linter.unusedSimpArgs false
attribute [local go_sem] Oper.semAt_some

def tile (x y u : Int) (k : Nat) : Int × Int := (x + (k : Int).tmod u, y + (k : Int) / u)
def upto (x y u : Int) (k : Nat) : List (Int × Int) := (List.range k).map (tile x y u)
theorem upto_succ (x y u : Int) (k : Nat) : upto x y u (k + 1) = upto x y u k ++ [tile x y u k] := by simp [upto, List.range_succ]
theorem upto_length (x y u : Int) (k : Nat) : (upto x y u k).length = k := by simp [upto]
abbrev encs (p : Int × Int) : Array Value := #[.int .i64 p.1, .int .i64 p.2]
theorem grown_of {w w' : World} (h : Below w.heap.size w w') : w.grownBy w' none := ⟨h.os, h.tape, h.output, h.size, fun k hk _ => h.block k hk⟩

/-- The block of what the iterator has captured lies as it lay. -/
def Kb (Bn : Nat) (A B : World) : Prop := B.heap[Bn]? = A.heap[Bn]?
theorem kb_t {Bn : Nat} {A B C : World} (h : Kb Bn A B) (k : Kb Bn B C) : Kb Bn A C := k.trans h
theorem kb_b {Bn : Nat} {w : World} (hn : Bn < w.heap.size) (W : World) (l : Nat) (o o' : Obj) (hl : w.heap.size ≤ l) (_ : W.heap[l]? = some o) (_ : o.isCells = false) (_ : o.isWalk = false) : Kb Bn W (W.putObj l o') := World.putObj_heap_other (by omega)
theorem own_blk {w w' : World} {row : Option Nat} {g : Nat} {t : TypeId} {cs : Array Value} (h : Blk w g t cs) (hg : w.grownBy w' row) (hr : ∀ r, row = some r → ∃ o : Obj, w.heap[r]? = some o ∧ o.isCells = false) : Blk w' g t cs :=
  h.grown hg (fun e => by
    obtain ⟨o, ho, hc⟩ := hr g e.symm
    unfold Blk at h
    rw [h] at ho
    cases ho
    cases hc)
theorem plain {x y u : Int} (h0 : 0 ≤ x) (h1 : x ≤ 256) (h2 : 0 ≤ y) (h3 : y ≤ 256) (h4 : 1 ≤ u) (h5 : u ≤ 256) {k : Nat} (hk : k ≤ 65536) :
    IntKind.i64.wrap (x + (k : Int).tmod u) = x + (k : Int).tmod u ∧ IntKind.i64.wrap ((k : Int) / u) = (k : Int) / u ∧ IntKind.i64.wrap (y + (k : Int) / u) = y + (k : Int) / u := by
  have a1 : 0 ≤ (k : Int).tmod u := Int.tmod_nonneg _ (by omega)
  have a2 : (k : Int).tmod u < u := Int.tmod_lt_of_pos _ (by omega)
  have a3 : 0 ≤ (k : Int) / u := Int.ediv_nonneg (by omega) (by omega)
  have a4 : (k : Int) / u ≤ k := Int.ediv_le_self _ (by omega)
  exact ⟨IntWalk.i64_in _ (by omega), IntWalk.i64_in _ (by omega), IntWalk.i64_in _ (by omega)⟩
set_option maxRecDepth 100000 in
set_option maxHeartbeats 2000000 in
theorem stops (n : Nat) (hn : 1 ≤ n) (x y u z : Int) (N : Nat) (AR : ∀ ws, Calls Try.prog 12 #[(.agg #[.int .i64 x, .int .i64 y, .int .i64 u, .int .i64 z])] ws fun e w' => e = .returned (.int .i64 N) ∧ Below ws.heap.size ws w')
    (hr : ∀ k, k < N → (0 ≤ x ∧ x ≤ 256 ∧ 0 ≤ y ∧ y ≤ 256 ∧ 1 ≤ u ∧ u ≤ 256)) (hN : N ≤ 65536) (Bn : Nat) (w0 : World) (hB : Blk w0 Bn 23 #[.int .i64 x, .int .i64 y, .int .i64 u, .int .i64 z]) :
    SeqStopsK Fence.wide n Try.prog 27 #[.pointer (some ⟨Bn, 0, none⟩)] encs (Kb Bn) (fun xs => xs = upto x y u N) (fun pre => ∃ k, k ≤ N ∧ pre = upto x y u k) N w0 := fun l J Jx W hW hJ hJx hY h0 => by
  have hbW : Blk W Bn 23 #[.int .i64 x, .int .i64 y, .int .i64 u, .int .i64 z] := hB.below hW hB.lt
  have c0 := hbW.cell 0
  have c1 := hbW.cell 1
  have c2 := hbW.cell 2
  have c3 := hbW.cell 3
  have hmx : Try.prog.follows .mixedOrders = true := by kernel_rfl
  have HY := Lib.hid hY
  have HJ := Lib.hid hJ
  have A0 := Lib.hid (AR W)
  have H0 := Lib.hid h0
  have HB := Lib.hid hbW
  have HR := Lib.hid hr
  clear hY hJ hJx AR h0 hB hbW hr hW
  refine callsIn_of_wp Try.func27 rfl trivial ?_ rfl
  simp only [Try.ntmps27, List.size_toArray, List.length_cons, List.length_nil, Nat.reduceAdd, Nat.reduceSub, Array.replicate_succ, Array.replicate_zero, List.push_toArray, List.append_toArray, List.nil_append, List.cons_append]
  gi_wp2_with (refine ⟨trivial, ?_⟩; gi_at_call 12; refine (callsIn_wide.2 A0.out).mono ?_; rintro e w1 ⟨rfl, hb1⟩)
  have J1 := Lib.hid (HJ.out _ _ _ none H0.out (grown_of hb1) (fun r e => by cases e))
  have B1 := Lib.hid (show Kb Bn W w1 from hb1.block Bn HB.out.lt)
  clear hb1 c0 c1 c2 c3 A0
  gi_loopw [6] (fun i wr => ∃ (k : Nat) (W' : World), W' = wr ∧ i = .int .i64 k ∧ k ≤ N ∧ J (upto x y u k) wr ∧ Kb Bn W wr) (fun i _ => N - (intOf i).toNat)
  case atStart => exact ⟨0, _, rfl, rfl, by omega, J1.out, B1.out⟩
  case round =>
  obtain ⟨k, w2, rfl, rfl, hk, hj, hb⟩ := hrel
  have B2 := Lib.hid hb
  have J2 := Lib.hid hj
  clear hb hj J1 B1
  by_cases hlt : k < N
  · have hr := HR.out k hlt
    have bx : Blk w2 Bn 23 #[.int .i64 x, .int .i64 y, .int .i64 u, .int .i64 z] := B2.out.trans HB.out
    have c0 := bx.cell 0
    have c1 := bx.cell 1
    have c2 := bx.cell 2
    obtain ⟨fn, tmps, assign, body, hy, hR⟩ := HY.out (upto x y u k) (tile x y u k) w2.drew (HJ.out _ _ _ none J2.out (grown_of ((Below.refl _ w2).drew)) (fun r e => by cases e)) (by rw [upto_length]; exact hlt)
    dsimp only [encs, tile] at hy
    have hu0 : (u == 0) = false := by simp; omega
    gi_wp2
    refine still.region_in still.wide 15 (by kernel_rfl) (by kernel_rfl) ?_
    simp only [List.take_succ_cons, List.take_zero, List.drop_succ_cons, List.drop_zero]
    have hu1 : ¬ u = 0 := by omega
    obtain ⟨e1, e2, e3⟩ := plain hr.1 hr.2.1 hr.2.2.1 hr.2.2.2.1 hr.2.2.2.2.1 hr.2.2.2.2.2 (k := k) (by omega)
    repeat still_step
    refine wpStill_nil ?_
    change wpListIn _ _ _ _ _ _ _ w2.drew
    gi_wp2
    refine hR.mono ?_
    rintro e w3 (⟨rfl, hj3, hk3⟩ | ⟨rfl, hx3⟩)
    · have J3 := Lib.hid hj3
      have B3 := Lib.hid (show Kb Bn W w3 from hk3.trans B2.out)
      clear hj3 hk3
      gi_wp2
      go_roundw
      case rel => exact ⟨k + 1, _, rfl, by go_num, by omega, by rw [upto_succ]; exact J3.out, B3.out⟩
      case measure => simp [intOf]; omega
    · have X3 := Lib.hid hx3
      clear hx3
      gi_wp2
      refine bodyPost_ret (results_none rfl _ _ _) rfl ?_
      exact ⟨⟨_, rfl⟩, .inr ⟨_, ⟨k + 1, by omega, (upto_succ _ _ _ _).symm⟩, X3.out⟩⟩
  · obtain rfl : k = N := by omega
    gi_wp2
    go_end0
    exact ⟨⟨_, rfl⟩, .inl ⟨_, rfl, J2.out⟩⟩
end Go.Proofs.Ytognbljpmhhbkaa.tiles
