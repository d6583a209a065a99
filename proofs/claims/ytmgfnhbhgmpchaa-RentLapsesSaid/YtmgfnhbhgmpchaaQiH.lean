/-
  The queue: Pop and Add.
-/
import Derived.Test.YtmgfnhbhgmpchaaQiG
namespace Go.Proofs.Ytmgfnhbhgmpchaa.qu
open Go.RowKit
open base (ret_bool ret_int made up Blk Only)
open rk mk
set_option linter.unusedVariables false
set_option linter.unusedSimpArgs false
variable {w w' : World} {q m : Nat} {v : Value} {L : List It} {ad : Int}

set_option maxHeartbeats 2000000 in
theorem pop_nil (H : QAt w q m v [] ad) (now : Int) : Calls Try.prog 47 #[.pointer (some ⟨q, 0, none⟩), .int .i64 now] w fun e w' => e = .returned (.tuple #[.int .i64 0, .int .i64 0, .int .i64 0, .int .i64 14]) ∧ w = w' := by
  obtain ⟨A, c, rfl, -, -, -, c0, -⟩ := H.open_
  clear H
  go_enter Try.func47, Try.ntmps47
  go_wp2_with fail
  (try simp only [Exit.inBlock, Exit.then]); refine bodyPost_ret (results_tmp4 rfl _ _ _) rfl ?_
  exact ⟨rfl, rfl⟩
set_option maxHeartbeats 4000000 in
set_option maxRecDepth 100000 in
theorem pop_no (H : QAt w q m v L ad) (h0 : 0 < L.length) {now : Int} (hd : now < (at_ L 0).2.1) : Calls Try.prog 47 #[.pointer (some ⟨q, 0, none⟩), .int .i64 now] w fun e w' => e = .returned (.tuple #[.int .i64 0, .int .i64 0, .int .i64 0, .int .i64 14]) ∧ w = w' := by
  obtain ⟨g, c, rfl, -, -, -, cel⟩ := H.full h0
  obtain ⟨x0, x1, x2⟩ := cel 0 h0
  rw [Nat.zero_mul] at x0 x1 x2
  rw [Nat.zero_add] at x1 x2
  have c0 := H.blk.cell 0
  have tz : ((L.length : Int) == 0) = false := by simp only [beq_eq_false_iff_ne, ne_eq]; omega
  have td : decide ((at_ L 0).2.1 > now) = true := decide_eq_true hd
  clear cel H hd
  generalize at_ L 0 = x at *
  obtain ⟨n, d, s⟩ := x
  go_enter Try.func47, Try.ntmps47
  go_wp2_with fail
  (try simp only [Exit.inBlock, Exit.then]); refine bodyPost_ret (results_tmp4 rfl _ _ _) rfl ?_
  exact ⟨rfl, rfl⟩
def PopP (q m : Nat) (v : Value) (L : List It) (ad : Int) (w : World) (e : Ending) (w' : World) : Prop := e = .returned (.tuple #[.int .i64 (at_ L 0).1, .int .i64 (at_ L 0).2.1, .int .i64 (at_ L 0).2.2, .int .i64 0]) ∧ ∃ v' L', (at_ L 0 :: L').Perm L ∧ Heap L' ∧ QAt w' q m v' L' ad ∧ Only (Foot q m v) w w' ∧ ∀ k, Foot q m v' k → Foot q m v k
set_option maxHeartbeats 4000000 in
set_option maxRecDepth 100000 in
theorem pop_yes (H : QAt w q m v L ad) (hh : Heap L) (h0 : 0 < L.length) {now : Int} (hd : ¬ now < (at_ L 0).2.1) (hl : L.length ≤ 100000) (had : ad ≤ 100000) : Calls Try.prog 47 #[.pointer (some ⟨q, 0, none⟩), .int .i64 now] w (PopP q m v L ad w) := by
  obtain ⟨g, c, rfl, -, -, -, cel⟩ := H.full h0
  obtain ⟨x0, x1, x2⟩ := cel 0 h0
  rw [Nat.zero_mul] at x0 x1 x2
  rw [Nat.zero_add] at x1 x2
  have c0 := H.blk.cell 0
  have tz : ((L.length : Int) == 0) = false := by simp only [beq_eq_false_iff_ne, ne_eq]; omega
  have td : decide ((at_ L 0).2.1 > now) = false := decide_eq_false hd
  have hm := made w (.cells #[.int .i64 (at_ L 0).1, .int .i64 (at_ L 0).2.1, .int .i64 (at_ L 0).2.2] 91)
  have K1 := Lib.hid (Blk.new w 91 #[.int .i64 (at_ L 0).1, .int .i64 (at_ L 0).2.1, .int .i64 (at_ L 0).2.2])
  have RM := Lib.hid (remove_any (H.below hm) hh h0 hl had)
  have B1 := Lib.hid hm
  have FR := Lib.hid (fun k (hk : Foot q m (.slice (some ⟨g, 0, none⟩) L.length c) k) => H.lt hk)
  unfold PopP
  have RM := Lib.hid (show Calls Try.prog _ _ _ (fun e w' => e = .returned (.tuple #[]) ∧ ∃ v' L', (at_ L 0 :: L').Perm L ∧ Heap L' ∧ QAt w' q m v' L' ad ∧ Only (Foot q m (.slice (some ⟨g, 0, none⟩) L.length c)) _ w' ∧ ∀ k, Foot q m v' k → Foot q m (.slice (some ⟨g, 0, none⟩) L.length c) k) from RM.out)
  clear cel H hd hm hh
  generalize at_ L 0 = x at *
  obtain ⟨n, d, s⟩ := x
  dsimp only at *
  generalize hw1 : w.alloc (.cells #[.int .i64 n, .int .i64 d, .int .i64 s] 91) = w1 at *
  go_enter Try.func47, Try.ntmps47
  go_wp2_with (rw [hw1])
  refine RM.out.mono ?_
  rintro e w2 ⟨rfl, v2, L2, p2, heap2, h2, o2, f2⟩
  have P2 := Lib.hid p2
  have HE := Lib.hid heap2
  have H2 := Lib.hid h2
  have F2 := Lib.hid f2
  have K2 := Lib.hid (K1.out.only o2 (fun hk => by have := FR.out _ hk; omega))
  have O2 := Lib.hid (Only.trans (foot_of_below (F := Foot q m (.slice (some ⟨g, 0, none⟩) L.length c)) B1.out) o2 (fun _ _ h => h))
  clear p2 heap2 h2 f2 o2 hw1 RM x0 x1 x2 c0
  have k0 := K2.out.cell 0
  have k1 := K2.out.cell 1
  have k2 := K2.out.cell 2
  go_upto_region 5 with fail
  go_quiet (fail)
  go_wp2_with fail
  (try simp only [Exit.inBlock, Exit.then]); refine bodyPost_ret (results_tmp4 rfl _ _ _) rfl ?_
  exact ⟨rfl, v2, L2, P2.out, HE.out, H2.out.keep (fun _ _ => rfl), O2.out.drewN _, F2.out⟩
end Go.Proofs.Ytmgfnhbhgmpchaa.qu
