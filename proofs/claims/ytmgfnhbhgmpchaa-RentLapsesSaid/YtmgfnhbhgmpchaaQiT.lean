/-
  The queue of ints: what is handed out while it is due.
-/
import Derived.Test.YtmgfnhbhgmpchaaQiJ
import Derived.Test.YtmgfnhbhgmpchaaRangeM
import Derived.Test.YtmgfnhbhgmpchaaStillIn
import Derived.Shelf.Abstract
import Derived.Shelf.RegionOpen
import Derived.OwnWalkIn
import Derived.TacticsInMore
import Derived.LoopNIn
import Derived.LoopIn
namespace Go.Proofs.Ytmgfnhbhgmpchaa.qu
open Go.RowKit Go.Shelf
open base (ret_bool ret_int made up Blk Only)
open rk mk rgm
set_option linter.unusedVariables false
set_option linter.unusedSimpArgs false
attribute [local go_sem] Oper.semAt_some
variable {w w' : World} {q m : Nat} {v : Value} {L M : List It} {ad : Int} {F : Nat → Prop}

set_option maxRecDepth 100000 in
set_option maxHeartbeats 4000000 in
/-- all that are due, one by one, whatever the rounds do meanwhile -/
theorem due_it (n : Nat) (hn : 1 ≤ n) (l bq bn : Nat) (now : Int) (W1 : World)
    (J : Nat → (Nat → Prop) → List It → Int → World → Prop) (μ : World → Nat) (X T : World → Prop)
    (hJ : ∀ k F M ad W, J k F M ad W → QS F W q M ad ∧ μ W = k ∧ W.cell? ⟨bq, 0, none⟩ = some (.pointer (some ⟨q, 0, none⟩)) ∧ W.cell? ⟨bn, 0, none⟩ = some (.int .i64 now) ∧ M.length ≤ 99000 ∧ ad ≤ 99000)
    (h0 : ∃ k F M ad, J k F M ad W1)
    (hend : ∀ k F M ad W, J k F M ad W → (∀ x M', M = x :: M' → now < x.2.1) → T W)
    (hY : ∀ k F x M ad W, J k F (x :: M) ad W → ¬ now < x.2.1 → ∀ F' W', QS F' W' q M ad → Mv F F' W W' → YieldAt Fence.wide (n - 1) Try.prog l #[.int .i64 x.1, .int .i64 x.2.2] W' fun e W2 => (e = .returned (.bool true) ∧ ∃ k' F2 M2 ad2, k' < k ∧ J k' F2 M2 ad2 W2) ∨ (e = .returned (.bool false) ∧ X W2)) :
    CallsIn Fence.wide n Try.prog 46 #[.func (.yield l) #[] #[], .pointer (some ⟨bq, 0, none⟩), .pointer (some ⟨bn, 0, none⟩)] W1 fun e W' => (∃ v, e = .returned v) ∧ (T W' ∨ X W') := by
  have HJ := Lib.hid hJ
  have H0 := Lib.hid h0
  have HE := Lib.hid hend
  have HY := Lib.hid hY
  clear hJ h0 hend hY
  refine callsIn_of_wp Try.func46 rfl trivial ?_ rfl
  simp only [Try.ntmps46, List.size_toArray, List.length_cons, List.length_nil, Nat.reduceAdd, Nat.reduceSub, Array.replicate_succ, Array.replicate_zero, List.push_toArray, List.append_toArray, List.nil_append, List.cons_append]
  gi_wp2
  gi_loopw [4, 5, 6, 7] (fun _ _ _ _ wr => ∃ (k : Nat) (F : Nat → Prop) (M : List It) (ad : Int) (W' : World), W' = wr ∧ J k F M ad wr) (fun _ _ _ _ wr => μ wr)
  case atStart =>
    obtain ⟨k, F, M, ad, h⟩ := H0.out
    exact ⟨k, F, M, ad, _, rfl, h⟩
  case round =>
  obtain ⟨k, F, M, ad, w2, rfl, hj⟩ := hrel
  obtain ⟨hq, hmu, c0, c1, hm1, hm2⟩ := HJ.out _ _ _ _ _ hj
  have J2 := Lib.hid hj
  have MU := Lib.hid hmu
  have Q2 := Lib.hid hq
  clear hj hmu hq
  cases M with
  | nil =>
    have PO := Lib.hid (qpop_nil Q2.out now)
    have TT := Lib.hid (HE.out _ _ _ _ _ J2.out (fun x M' e => by cases e))
    gi_wp2
    refine ⟨trivial, (callsIn_wide.2 PO.out).mono ?_⟩
    rintro e w3 ⟨rfl, rfl⟩
    gi_wp2
    refine ⟨fun _ h => (by cases h), ?_⟩
    gi_wp2
    refine bodyPost_ret (results_none rfl _ _ _) rfl ?_
    exact ⟨⟨_, rfl⟩, .inl TT.out⟩
  | cons x M' =>
    by_cases hnow : now < x.2.1
    · have PO := Lib.hid (qpop_no Q2.out hnow)
      have TT := Lib.hid (HE.out _ _ _ _ _ J2.out (fun y M2 e => by injection e with e1 e2; rw [← e1]; exact hnow))
      gi_wp2
      refine ⟨trivial, (callsIn_wide.2 PO.out).mono ?_⟩
      rintro e w3 ⟨rfl, rfl⟩
      gi_wp2
      refine ⟨fun _ h => (by cases h), ?_⟩
      gi_wp2
      refine bodyPost_ret (results_none rfl _ _ _) rfl ?_
      exact ⟨⟨_, rfl⟩, .inl TT.out⟩
    · have PO := Lib.hid (qpop Q2.out hnow (by simp at hm1; omega) (by omega))
      have RR := Lib.hid (fun F' W' => HY.out _ _ _ _ _ _ J2.out (by omega) F' W')
      clear hnow
      obtain ⟨x0, x1, x2⟩ := x
      dsimp only at PO RR
      gi_wp2
      refine ⟨trivial, (callsIn_wide.2 PO.out).mono ?_⟩
      rintro e w3 ⟨rfl, F3, h3, m3⟩
      obtain ⟨fn, tmps, assign, body, hy, hR⟩ := RR.out F3 w3 h3 m3
      clear h3 m3 RR PO
      gi_wp2
      refine hR.mono ?_
      rintro e w4 (⟨rfl, k', F2, M2, ad2, hk, hj2⟩ | ⟨rfl, hx⟩)
      · have J4 := Lib.hid hj2
        have M4 := Lib.hid (HJ.out _ _ _ _ _ hj2).2.1
        clear hj2 c0 c1
        gi_wp2
        go_roundw
        case rel => exact ⟨k', F2, M2, ad2, _, rfl, J4.out⟩
        case measure => rw [M4.out, MU.out]; exact hk
      · have X5 := Lib.hid hx
        clear hx
        gi_wp2
        refine bodyPost_ret (results_none rfl _ _ _) rfl ?_
        exact ⟨⟨_, rfl⟩, .inr X5.out⟩
set_option maxHeartbeats 1000000 in
theorem due_make (q : Nat) (now : Int) (w : World) : Calls Try.prog 35 #[.pointer (some ⟨q, 0, none⟩), .int .i64 now] w fun e w' => e = .returned (.func (.func 46) #[] #[.pointer (some ⟨w.heap.size, 0, none⟩), .pointer (some ⟨w.heap.size + 1, 0, none⟩)]) ∧ Blk w' w.heap.size 72 #[.pointer (some ⟨q, 0, none⟩)] ∧ Blk w' (w.heap.size + 1) 3 #[.int .i64 now] ∧ Below w.heap.size w w' := by
  have h1 := made w (.cells #[.pointer (some ⟨q, 0, none⟩)] 72)
  have hm := Lib.hid (up h1 (made _ (.cells #[.int .i64 now] 3)) h1.size)
  have bx := Lib.hid ((Blk.new w 72 #[.pointer (some ⟨q, 0, none⟩)]).alloc (.cells #[.int .i64 now] 3))
  have by_ := Lib.hid (show Blk _ (w.heap.size + 1) _ _ by
    have := Blk.new (w.alloc (.cells #[.pointer (some ⟨q, 0, none⟩)] 72)) 3 #[.int .i64 now]
    rw [asz] at this
    exact this)
  clear h1
  go_enter Try.func35, Try.ntmps35
  go_wp2_with fail
  go_ret
  exact ⟨rfl, bx.out, by_.out, hm.out⟩
end Go.Proofs.Ytmgfnhbhgmpchaa.qu
