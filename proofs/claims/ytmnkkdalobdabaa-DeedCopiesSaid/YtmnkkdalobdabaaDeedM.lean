/-
  All deeds: what the function that is ranged over hands out, in its order.
-/
import Derived.Test.YtmnkkdalobdabaaDeedK
import Derived.Test.YtmnkkdalobdabaaStillIn
import Derived.RangeFuncNested
import Derived.RangeFuncBound
import Derived.RangeFuncCalls
import Derived.RangeFuncLeaves
import Derived.RangeFuncFrom
import Derived.Shelf.Abstract
import Derived.Shelf.RegionOpen
import Derived.WalkKit
import Derived.OwnWalkIn
import Derived.TacticsInMore
import Derived.LoopNIn
import Derived.LoopIn
import Derived.StillTailTactics
import Derived.Lib.Hide
namespace Go.Proofs.Ytmnkkdalobdabaa.dd
open Go.RowKit Go.Shelf
open base (ret_bool ret_int made up Blk Only Nums)
open rk
set_option linter.unusedVariables false
set_option linter.unusedSimpArgs false
attribute [local go_sem] Oper.semAt_some

abbrev encD (d : D) : Array Value := #[(.agg #[.int .i64 d.1, .int .i64 d.2.1, .int .i64 d.2.2])]
theorem grown_of {w w' : World} (h : Below w.heap.size w w') : w.grownBy w' none := ⟨h.os, h.tape, h.output, h.size, fun k hk _ => h.block k hk⟩
set_option maxRecDepth 100000 in
set_option maxHeartbeats 4000000 in
theorem d_stops (n : Nat) (hn : 1 ≤ n) (L : List D) (Bn B g : Nat) (nx : Int) (w w0 : World) (hD : DAt w B g L nx) (hw : Below w.heap.size w w0) (hB : Blk w0 Bn 23 #[.pointer (some ⟨g, 0, none⟩)]) (hl : L.length ≤ 100000) :
    SeqStopsK Fence.wide n Try.prog 37 #[.pointer (some ⟨Bn, 0, none⟩)] encD (Below w.heap.size) (fun xs => xs = L) (fun pre => ∃ k, k ≤ L.length ∧ pre = L.take k) L.length w0 := fun l J Jx W hW hJ hJx hY h0 => by
  obtain ⟨A, c, hbk, _, hlay, hle, hmx⟩ := hD.open_
  have hwW : Below w.heap.size w W := up hw hW hw.size
  have c1 := (hB.below hW hB.lt).cell 0
  have c2 := (hbk.below hwW hbk.lt).cell 0
  have HY := Lib.hid hY
  have HJ := Lib.hid hJ
  have H0 := Lib.hid h0
  have LW := Lib.hid (fun ws (h : Below w.heap.size W ws) => hlay.below (up hwW h (Nat.le_refl _)))
  have WW := Lib.hid hwW.size
  clear hY hJ hJx h0 hB hW hD hw hbk hlay hwW
  refine callsIn_of_wp Try.func37 rfl trivial ?_ rfl
  simp only [Try.ntmps37, List.size_toArray, List.length_cons, List.length_nil, Nat.reduceAdd, Nat.reduceSub, Array.replicate_succ, Array.replicate_zero, List.push_toArray, List.append_toArray, List.nil_append, List.cons_append]
  gi_wp2
  gi_loopw [10] (fun i wr => ∃ (k : Nat) (W' : World), W' = wr ∧ i = .int .i64 k ∧ k ≤ L.length ∧ J (L.take k) wr ∧ Below w.heap.size W wr) (fun i _ => L.length - (intOf i).toNat)
  case atStart => exact ⟨0, _, rfl, rfl, by omega, H0.out, Below.refl _ _⟩
  case round =>
  obtain ⟨k, w2, rfl, rfl, hk, hj, hb⟩ := hrel
  have B2 := Lib.hid hb
  have J2 := Lib.hid hj
  clear hj c1 c2
  by_cases hlt : k < L.length
  · obtain ⟨bb, off, rfl, e0, e1, e2⟩ := lay3 (LW.out _ hb) hlt
    have TK := Lib.hid (List.take_succ_eq_append_getElem hlt)
    have LT := Lib.hid (show (L.take k).length < L.length by rw [List.length_take]; omega)
    generalize L[k] = d at *
    obtain ⟨d0, d1, d2⟩ := d
    dsimp only at e0 e1 e2
    have hm := made w2 (.cells #[.int .i64 d0, .int .i64 d1, .int .i64 d2] 40)
    have J3 := Lib.hid (HJ.out _ _ _ none J2.out (grown_of hm) (fun r e => by cases e))
    have B3 := Lib.hid (show Below w.heap.size W (w2.alloc (.cells #[.int .i64 d0, .int .i64 d1, .int .i64 d2] 40)) from hb.alloc (Nat.le_trans WW.out hb.size) _)
    obtain ⟨fn, tmps, assign, body, hy, hR⟩ := HY.out (L.take k) (d0, d1, d2) (w2.alloc (.cells #[.int .i64 d0, .int .i64 d1, .int .i64 d2] 40)) J3.out LT.out
    dsimp only [encD] at hy
    clear hb hm
    gi_wp2
    refine hR.mono ?_
    rintro e w3 (⟨rfl, hj3, hk3⟩ | ⟨rfl, hx3⟩)
    · have J4 := Lib.hid hj3
      have B4 := Lib.hid (B3.out.trans hk3)
      clear hj3 hk3 e0 e1 e2
      gi_wp2
      go_roundw
      case rel => exact ⟨k + 1, _, rfl, by go_num, by omega, by rw [TK.out]; exact J4.out, B4.out⟩
      case measure => simp [intOf]; omega
    · have X3 := Lib.hid hx3
      clear hx3 e0 e1 e2
      gi_wp2
      refine bodyPost_ret (results_none rfl _ _ _) rfl ?_
      exact ⟨⟨_, rfl⟩, .inr ⟨_, ⟨k + 1, by omega, TK.out.symm⟩, X3.out⟩⟩
  · obtain rfl : k = L.length := by omega
    rw [List.take_length] at J2
    clear hb
    gi_wp2
    go_end0
    exact ⟨⟨_, rfl⟩, .inl ⟨_, rfl, J2.out⟩⟩
set_option maxHeartbeats 1000000 in
theorem all_make (g : Nat) (w : World) : Calls Try.prog 31 #[.pointer (some ⟨g, 0, none⟩)] w fun e w' => e = .returned (.func (.func 37) #[] #[.pointer (some ⟨w.heap.size, 0, none⟩)]) ∧ Blk w' w.heap.size 23 #[.pointer (some ⟨g, 0, none⟩)] ∧ Below w.heap.size w w' := by
  have hm := Lib.hid (made w (.cells #[.pointer (some ⟨g, 0, none⟩)] 23))
  have bx := Lib.hid (Blk.new w 23 #[.pointer (some ⟨g, 0, none⟩)])
  go_enter Try.func31, Try.ntmps31
  go_wp2_with fail
  go_ret
  exact ⟨rfl, bx.out, hm.out⟩
end Go.Proofs.Ytmnkkdalobdabaa.dd
