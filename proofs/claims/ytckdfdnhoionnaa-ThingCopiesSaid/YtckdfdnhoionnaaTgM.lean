/-
  Things that are told: the functions that are ranged over.
-/
import Derived.Test.YtckdfdnhoionnaaTgL
import Derived.Test.YtckdfdnhoionnaaRangeM
import Derived.Test.YtckdfdnhoionnaaStillIn
import Derived.Test.YtckdfdnhoionnaaHeldIn
import Derived.RangeFuncNested
import Derived.RangeFuncBound
import Derived.RangeFuncCalls
import Derived.RangeFuncLeaves
import Derived.RangeFuncFrom
import Derived.Shelf.Abstract
import Derived.Shelf.RegionOpen
import Derived.WalkKit
import Derived.OwnWalkIn
import Derived.TacticsInMore
import Derived.LoopNIn
import Derived.LoopIn
namespace Go.Proofs.Ytckdfdnhoionnaa.tg
open Go.RowKit Go.Shelf
open base (ret_bool ret_int made up Blk Only)
open rk mk il nm rgm
set_option linter.unusedVariables false
set_option linter.unusedSimpArgs false
attribute [local go_sem] Oper.semAt_some
variable {B g m K : Nat} {w w1 w2 w5 w' : World} {L : List Th} {nx : Int}

def sel (pr : Th → Bool) (L : List Th) : List Th := L.filter pr
def at_ (M : List Th) (k : Nat) : Th := M.getD k dflt
theorem sel_snoc (pr : Th → Bool) (L : List Th) {k : Nat} (hk : k < L.length) : sel pr (L.take (k + 1)) = if pr L[k] then sel pr (L.take k) ++ [L[k]] else sel pr (L.take k) := by
  rw [List.take_succ_eq_append_getElem hk]
  unfold sel
  rw [List.filter_append]
  cases h : pr L[k] <;> simp [h]
theorem sel_at (pr : Th → Bool) (L : List Th) {k : Nat} (hk : k < L.length) (hp : pr L[k] = true) : (sel pr (L.take k)).length < (sel pr L).length ∧ at_ (sel pr L) (sel pr (L.take k)).length = L[k] := by
  have e : sel pr L = sel pr (L.take k) ++ L[k] :: sel pr (L.drop (k + 1)) := by
    unfold sel
    conv => lhs; rw [← List.take_append_drop k L, List.drop_eq_getElem_cons hk]
    rw [List.filter_append, List.filter_cons, hp]
    rfl
  refine ⟨by rw [e]; simp, ?_⟩
  unfold at_
  rw [e, List.getD_eq_getElem?_getD, List.getElem?_append_right (Nat.le_refl _), Nat.sub_self]
  rfl
theorem at_of {M : List Th} {k : Nat} (h : k < M.length) : at_ M k = M[k] := getD_of h
def ClP (b : Bool) (w : World) (e : Ending) (w' : World) : Prop := e = .returned (.bool b) ∧ Below w.heap.size w w'
set_option maxRecDepth 100000 in
set_option maxHeartbeats 4000000 in
theorem having_it (n : Nat) (hn : 1 ≤ n) (l bt bi : Nat) (fcl : Nat) (caps : Array Value) (pr : Th → Bool) (W1 : World) (hl : L.length ≤ 99000)
    (J : Nat → World → Prop) (X : World → Prop)
    (A0 : Option Addr) (hA0 : ∀ k W, J k W → Lay E6 W A0 L ∧ ∃ c0 n0, Blk W g 68 #[.slice A0 L.length c0, .map (some m), n0])
    (hJ : ∀ k W, J k W → TAt W B g m L nx K ∧ Blk W bt 23 #[.pointer (some ⟨g, 0, none⟩)] ∧ Blk W bi 82 #[.func (.func fcl) #[] caps])
    (HC : ∀ (d : Th) k W, J k W → Calls Try.prog fcl (#[tv d] ++ caps) W (ClP (pr d) W)) (hfn : ∀ args w, (callFunc fcl args).run Try.prog w = .ok (.enter fcl args) w)
    (h0 : J 0 W1) (hJa : ∀ k W W', J k W → Below W.heap.size W W' → J k W')
    (hY : ∀ k W, k < (sel pr L).length → J k W → YieldAt Fence.wide (n - 1) Try.prog l #[tv (at_ (sel pr L) k)] W fun e W' => (e = .returned (.bool true) ∧ J (k + 1) W') ∨ (e = .returned (.bool false) ∧ X W')) :
    CallsIn Fence.wide n Try.prog 51 #[.func (.yield l) #[] #[], .pointer (some ⟨bt, 0, none⟩), .pointer (some ⟨bi, 0, none⟩)] W1 fun e W' => (∃ v, e = .returned v) ∧ (J (sel pr L).length W' ∨ X W') := by
  obtain ⟨hT, hb1, hb2⟩ := hJ _ _ h0
  obtain ⟨A, c, hbk, -, hlay, hle, hmx⟩ := hT.open_
  obtain ⟨-, c0', n0', hbk'⟩ := hA0 _ _ h0
  have hAA : A0 = A := by
    unfold Blk at hbk hbk'
    rw [hbk] at hbk'
    injection hbk' with q
    injection q with q _
    simp at q
    exact q.1.1.symm
  subst hAA
  have AEQ := Lib.hid (fun k W (h : J k W) => (hA0 k W h).1)
  clear hA0 hbk'
  have b0 := hb1.cell 0
  have c0 := hbk.cell 0
  have LY := Lib.hid (fun k W (h : J k W) => (hJ k W h))
  have RW := Lib.hid (fun W (h : TAt W B g m L nx K) => h.open_)
  have HY := Lib.hid hY
  have HJ := Lib.hid hJa
  have H0 := Lib.hid h0
  have HCL := Lib.hid HC
  have HF := Lib.hid hfn
  have AA := Lib.hid (show Lay E6 W1 A0 L from hlay)
  clear hY hJa h0 hb1 hb2 hT hbk hlay HC hfn hJ
  refine callsIn_of_wp Try.func51 rfl trivial ?_ rfl
  simp only [Try.ntmps51, List.size_toArray, List.length_cons, List.length_nil, Nat.reduceAdd, Nat.reduceSub, Array.replicate_succ, Array.replicate_zero, List.push_toArray, List.append_toArray, List.nil_append, List.cons_append]
  gi_wp2
  gi_loopw [11] (fun i wr => ∃ (k : Nat) (W' : World), W' = wr ∧ i = .int .i64 k ∧ k ≤ L.length ∧ J (sel pr (L.take k)).length wr ∧ Lay E6 wr A0 L) (fun i _ => L.length - (intOf i).toNat)
  case atStart => exact ⟨0, _, rfl, rfl, by omega, H0.out, AA.out⟩
  case round =>
  obtain ⟨k, w4, rfl, rfl, hk, hj, hly⟩ := hrel
  have J4 := Lib.hid hj
  have L4 := Lib.hid hly
  clear hj hly AA
  by_cases hlt : k < L.length
  · obtain ⟨bb, off, rfl, e0, e1, e2, e3, e4, e5⟩ := lay6 L4.out hlt
    have hm := made w4 (.cells #[.int .i64 L[k].id, .string L[k].nm, .int .i64 L[k].ow, .int .i64 L[k].kd, .int .i64 L[k].hs, .int .i64 L[k].sl] 46)
    have bx : Blk (w4.alloc (.cells #[.int .i64 L[k].id, .string L[k].nm, .int .i64 L[k].ow, .int .i64 L[k].kd, .int .i64 L[k].hs, .int .i64 L[k].sl] 46)) w4.heap.size 46 #[.int .i64 L[k].id, .string L[k].nm, .int .i64 L[k].ow, .int .i64 L[k].kd, .int .i64 L[k].hs, .int .i64 L[k].sl] := Blk.new _ _ _
    have J5 := Lib.hid (HJ.out _ _ _ J4.out hm)
    have L5 := Lib.hid (L4.out.below hm)
    have BX := Lib.hid bx
    have C5 := Lib.hid (HCL.out L[k] _ _ J5.out)
    have SN := Lib.hid (sel_snoc pr L hlt)
    have SA := Lib.hid (sel_at pr L hlt)
    have x0 := bx.cell 0
    have x1 := bx.cell 1
    have x2 := bx.cell 2
    have x3 := bx.cell 3
    have x4 := bx.cell 4
    have x5 := bx.cell 5
    have u0 := (LY.out _ _ J5.out).2.2.cell 0
    generalize L[k] = d at *
    generalize pr d = q at *
    clear hm bx
    obtain ⟨d0, d1, d2, d3, d4, d5⟩ := d
    dsimp only [tv] at e0 e1 e2 e3 e4 e5 x0 x1 x2 x3 x4 x5 C5 SN SA J5 L5 BX u0
    clear b0 c0
    have hfn := HF.out
    gi_wp2
    clear hfn
    refine ⟨trivial, (callsIn_wide.2 C5.out).mono ?_⟩
    rintro e w6 ⟨rfl, hb6⟩
    have J6 := Lib.hid (HJ.out _ _ _ J5.out hb6)
    have L6 := Lib.hid (L5.out.below hb6)
    have X6 := Lib.hid (BX.out.below hb6 BX.out.lt)
    clear hb6 x0 x1 x2 x3 x4 x5 u0 C5 J5 L5
    have x0 := X6.out.cell 0
    have x1 := X6.out.cell 1
    have x2 := X6.out.cell 2
    have x3 := X6.out.cell 3
    have x4 := X6.out.cell 4
    have x5 := X6.out.cell 5
    cases q with
    | false =>
      rw [if_neg (by simp)] at SN
      gi_wp2
      refine ⟨fun _ h => (by cases h), ?_⟩
      gi_wp2
      go_roundw
      case rel => exact ⟨k + 1, _, rfl, by go_num, by omega, by rw [SN.out]; exact J6.out, L6.out⟩
      case measure => simp [intOf]; omega
    | true =>
      rw [if_pos rfl] at SN
      obtain ⟨sa1, sa2⟩ := SA.out rfl
      have R := Lib.hid (HY.out _ _ sa1 J6.out)
      rw [sa2] at R
      have LN := Lib.hid (show (sel pr (L.take (k + 1))).length = (sel pr (L.take k)).length + 1 by rw [SN.out]; simp)
      clear sa1 sa2
      dsimp only [tv] at R
      obtain ⟨fn, tmps, assign, body, hy, hR⟩ := R.out
      clear R
      gi_wp2
      refine hR.mono ?_
      rintro e w7 (⟨rfl, hj7⟩ | ⟨rfl, hx7⟩)
      · have J7 := Lib.hid hj7
        have L7 := Lib.hid (show Lay E6 w7 (some ⟨bb, off, none⟩) L from (by
          obtain ⟨A', c', hbk', -, hlay', -⟩ := (LY.out _ _ hj7).1.open_
          have := AEQ.out _ _ hj7
          exact this))
        clear hj7 x0 x1 x2 x3 x4 x5
        gi_wp2
        go_roundw
        case rel => exact ⟨k + 1, _, rfl, by go_num, by omega, by rw [LN.out]; exact J7.out, L7.out⟩
        case measure => simp [intOf]; omega
      · have X7 := Lib.hid hx7
        clear hx7 x0 x1 x2 x3 x4 x5
        gi_wp2
        refine bodyPost_ret (results_none rfl _ _ _) rfl ?_
        exact ⟨⟨_, rfl⟩, .inr X7.out⟩
  · obtain rfl : k = L.length := by omega
    rw [List.take_length] at J4
    clear b0 c0
    gi_wp2
    go_end0
    exact ⟨⟨_, rfl⟩, .inl J4.out⟩
end Go.Proofs.Ytckdfdnhoionnaa.tg
