/-
  Contracts of package stall: Collect, Sell.
-/
import Derived.Test.YthnjacfpnbhfpaaStD
namespace Go.Proofs.Ythnjacfpnbhfpaa.st
open Go.RowKit
open base (ret_bool ret_int made up Blk Only)
open rk mk
set_option linter.unusedVariables false
set_option linter.unusedSimpArgs false
variable {B g bs bw : Nat} {w w1 w2 w' : World} {s : S3} {tot : Int} {nT nG m : Nat} {P M : Int → Nat}

set_option maxRecDepth 100000 in
set_option maxHeartbeats 2000000 in
theorem collect_none (n : Int) (H : SX w B g bs bw s tot m) (hw : (Lit.int .i64 n).wf = true) (hT : s.T n = none) :
    Calls Try.prog 19 #[.pointer (some ⟨g, 0, none⟩), .int .i64 n] w fun e w' => e = .returned (.tuple #[.int .i64 0, .int .i64 14]) ∧ w = w' := by
  obtain ⟨nT, nG, P, M, h1, a, b⟩ := H
  have TI := till_any n h1 hw
  rw [hT] at TI
  have TI := Lib.hid (show Calls Try.prog _ _ w (fun e w' => e = .returned (.tuple #[.int .i64 0, .int .i64 14]) ∧ w = w') from TI)
  clear h1 hT
  go_enter Try.func19, Try.ntmps19
  go_wp2_with fail
  refine TI.out.mono ?_
  rintro e w1 ⟨rfl, rfl⟩
  go_wp2_with fail
  go_ret2
  exact ⟨rfl, rfl⟩
set_option maxRecDepth 100000 in
set_option maxHeartbeats 2000000 in
theorem collect_some (n u : Int) (H : SX w B g bs bw s tot m) (hT : s.T n = some u) (ht : -4611686018427387904 ≤ tot ∧ tot ≤ 4611686018427387904) :
    Calls Try.prog 19 #[.pointer (some ⟨g, 0, none⟩), .int .i64 n] w fun e w' => e = .returned (.tuple #[.int .i64 u, .int .i64 0]) ∧ SX w' B g bs bw (setS s n 0) (tot - u) m ∧ Chg B w w' := by
  obtain ⟨nT, nG, P, M, h1, a, b⟩ := H
  have hw := h1.gd.wfT hT
  obtain ⟨-, -, u0, u1⟩ := h1.gd.till n u hT
  have TI := till_any n h1 hw
  rw [hT] at TI
  have TI := Lib.hid (show Calls Try.prog _ _ w (fun e w' => e = .returned (.tuple #[.int .i64 u, .int .i64 0]) ∧ w = w') from TI)
  have l1 := h1.s_at hT
  have c0 := h1.blk.cell 0
  have on := h1.one n u hT
  have p0 := on.blk.cell 0
  have f0 := on.blk.free 0
  obtain ⟨h2, k2⟩ := h1.till (v := 0) hT (by decide) (by decide)
  have c2 := h2.blk.cell 2
  have f2 := h2.blk.free 2
  obtain ⟨h3, k3⟩ := h2.total (tot - u)
  have H3 := Lib.hid (h3.sx (m := m) a b)
  have K3 := Lib.hid (k2.trans k3)
  have wr : IntKind.i64.wrap (tot - u) = tot - u := IntWalk.i64_in _ (by omega)
  clear h1 hT hw on h2 h3 k2 k3
  go_enter Try.func19, Try.ntmps19
  go_wp2_with fail
  refine TI.out.mono ?_
  rintro e w1 ⟨rfl, rfl⟩
  go_upto_region 5 with fail
  generalize w.setCell ⟨P n, 0, none⟩ (.int .i64 0) = w2 at *
  clear c0 p0 f0 l1
  go_wp2_with fail
  go_ret2
  exact ⟨rfl, H3.out, K3.out⟩

set_option maxRecDepth 100000 in
set_option maxHeartbeats 2000000 in
theorem sell_none (t : Int) (H : SX w B g bs bw s tot m) (hw : (Lit.int .i64 t).wf = true) (hG : s.G t = none) :
    Calls Try.prog 18 #[.pointer (some ⟨g, 0, none⟩), .int .i64 t] w fun e w' => e = .returned (.tuple #[.int .i64 0, .int .i64 0, .int .i64 14]) ∧ SX w' B g bs bw s tot m ∧ Chg B w w' := by
  have HH := Lib.hid H
  obtain ⟨nT, nG, P, M, h1, a, b⟩ := H
  have PR := price_any t h1 hw
  have e1 : prA s t = 0 ∧ prB s t = 0 ∧ prE s t = 14 := by unfold prA prB prE; rw [hG]; exact ⟨rfl, rfl, rfl⟩
  rw [e1.1, e1.2.1, e1.2.2] at PR
  have PR := Lib.hid PR
  clear h1 hG e1
  go_enter Try.func18, Try.ntmps18
  go_wp2_with fail
  refine PR.out.mono ?_
  rintro e w1 ⟨rfl, b1⟩
  have B1 := Lib.hid b1
  clear b1
  go_wp2_with fail
  go_ret3
  exact ⟨rfl, HH.out.below B1.out, Chg.of_below _ B1.out⟩
set_option maxRecDepth 100000 in
set_option maxHeartbeats 4000000 in
theorem sell_over (t n p u : Int) (H : SX w B g bs bw s tot m) (hG : s.G t = some (n, p)) (hT : s.T n = some u) (ho : 1099511627776 < u + p) :
    Calls Try.prog 18 #[.pointer (some ⟨g, 0, none⟩), .int .i64 t] w fun e w' => e = .returned (.tuple #[.int .i64 0, .int .i64 0, .int .i64 15]) ∧ SX w' B g bs bw s tot m ∧ Chg B w w' := by
  have HH := Lib.hid H
  obtain ⟨nT, nG, P, M, h1, a, b⟩ := H
  have PR := price_any t h1 (h1.gd.wfG hG)
  have e1 : prA s t = n ∧ prB s t = p ∧ prE s t = 0 := by unfold prA prB prE; rw [hG]; exact ⟨rfl, rfl, rfl⟩
  rw [e1.1, e1.2.1, e1.2.2] at PR
  have PR := Lib.hid PR
  obtain ⟨-, -, -, p1, p2⟩ := h1.gd.good t n p hG
  obtain ⟨-, -, u1, u2⟩ := h1.gd.till n u hT
  have HS := Lib.hid h1
  have HT := Lib.hid hT
  have AD := Lib.hid (fun ws => gold.add_any u p ws)
  have HR := Lib.hid (show (gold.isRight u && gold.isRight p) = true by rw [gold.right_mk u1 u2, gold.right_mk (by omega) p2]; rfl)
  have HO := Lib.hid ho
  clear h1 hG e1 hT ho
  go_enter Try.func18, Try.ntmps18
  go_wp2_with fail
  refine PR.out.mono ?_
  rintro e w1 ⟨rfl, b1⟩
  have B1 := Lib.hid b1
  have h2 := HS.out.below b1
  have l1 := h2.s_at HT.out
  have c0 := h2.blk.cell 0
  have q0 := (h2.one n u HT.out).blk.cell 0
  clear b1 h2 PR
  go_wp2_with fail
  refine (AD.out _).mono ?_
  rintro e w2 ⟨-, a1, -, a4⟩
  have e1 := a1 HR.out HO.out
  subst e1
  have B2 := Lib.hid (B1.out.trans (a4.mono B1.out.size))
  clear a1 a4 AD l1 c0 q0
  go_wp2_with fail
  go_ret3
  exact ⟨rfl, HH.out.below B2.out, Chg.of_below _ B2.out⟩
def soldS (s : S3) (t n v : Int) : S3 := takeS (setS s n v) n t
set_option maxRecDepth 100000 in
set_option maxHeartbeats 4000000 in
theorem sell_some (t n p u : Int) (H : SX w B g bs bw s tot m) (hm : m ≤ 1000) (hG : s.G t = some (n, p)) (hT : s.T n = some u) (ho : u + p ≤ 1099511627776) (ht : -1152921504606846976 ≤ tot ∧ tot ≤ 1152921504606846976) :
    Calls Try.prog 18 #[.pointer (some ⟨g, 0, none⟩), .int .i64 t] w fun e w' => e = .returned (.tuple #[.int .i64 n, .int .i64 p, .int .i64 0]) ∧ SX w' B g bs bw (soldS s t n (u + p)) (tot + p) m ∧ Chg B w w' := by
  obtain ⟨nT, nG, P, M, h1, a, b⟩ := H
  have hw := h1.gd.wfG hG
  have PR := price_any t h1 hw
  have e1 : prA s t = n ∧ prB s t = p ∧ prE s t = 0 := by unfold prA prB prE; rw [hG]; exact ⟨rfl, rfl, rfl⟩
  rw [e1.1, e1.2.1, e1.2.2] at PR
  have PR := Lib.hid PR
  obtain ⟨-, -, -, p1, p2⟩ := h1.gd.good t n p hG
  obtain ⟨-, -, u1, u2⟩ := h1.gd.till n u hT
  have HS := Lib.hid h1
  have HT := Lib.hid hT
  have HG := Lib.hid hG
  have AD := Lib.hid (fun ws => gold.add_any u p ws)
  have HR := Lib.hid (show (gold.isRight u && gold.isRight p) = true by rw [gold.right_mk u1 u2, gold.right_mk (by omega) p2]; rfl)
  have HO := Lib.hid ho
  have HW := Lib.hid hw
  clear h1 hG e1 hT hw
  go_enter Try.func18, Try.ntmps18
  go_wp2_with fail
  refine PR.out.mono ?_
  rintro e w1 ⟨rfl, b1⟩
  have B1 := Lib.hid b1
  have h2 := HS.out.below b1
  have l1 := h2.s_at HT.out
  have c0 := h2.blk.cell 0
  have q0 := (h2.one n u HT.out).blk.cell 0
  clear b1 h2 PR
  go_wp2_with fail
  refine (AD.out _).mono ?_
  rintro e w2 ⟨-, -, a1, a4⟩
  have e1 := a1 HR.out HO.out
  subst e1
  have b2 := B1.out.trans (a4.mono B1.out.size)
  have B2 := Lib.hid b2
  clear a1 a4 AD l1 c0 q0
  have h3 := HS.out.below b2
  have l1 := h3.s_at HT.out
  have c0 := h3.blk.cell 0
  have c2 := h3.blk.cell 2
  have on := h3.one n u HT.out
  have q0 := on.blk.cell 0
  have f0 := on.blk.free 0
  obtain ⟨h4, k4⟩ := h3.till (v := u + p) HT.out (by omega) ho
  have d2 := h4.blk.cell 2
  have f2 := h4.blk.free 2
  obtain ⟨h5, k5⟩ := h4.total (tot + p)
  have H5 := Lib.hid (h5.sx (m := m) a b)
  have K5 := Lib.hid ((Chg.of_below B b2).trans (k4.trans k5))
  have wr : IntKind.i64.wrap (tot + p) = tot + p := IntWalk.i64_in _ (by omega)
  have wr2 : IntKind.i64.wrap (4611686018427387904 - tot) = 4611686018427387904 - tot := IntWalk.i64_in _ (by omega)
  have z1 : decide (p > 4611686018427387904 - tot) = false := decide_eq_false (by omega)
  have z2 : decide (4611686018427387904 - tot < p) = false := decide_eq_false (by omega)
  clear b2 h3 on h4 h5 k4 k5
  go_upto_region 10 with fail
  clear z1 z2 wr2 c0 c2 q0 f0 l1
  generalize w2.setCell ⟨P n, 0, none⟩ (.int .i64 (u + p)) = w3 at *
  go_upto_region 11 with fail
  clear d2 f2 wr
  generalize w3.setCell ⟨g, 2, none⟩ (.int .i64 (tot + p)) = w4 at *
  have TK := take_any t H5.out hm HW.out
  have e1 : takeE (setS s n (u + p)) t = 0 := by
    unfold takeE
    rw [show (setS s n (u + p)).G t = some (n, p) from HG.out]
  have e2 : takeR (setS s n (u + p)) t = soldS s t n (u + p) := by
    unfold takeR
    rw [show (setS s n (u + p)).G t = some (n, p) from HG.out]
    rfl
  rw [e1, e2] at TK
  have TK := Lib.hid TK
  clear e1 e2
  go_wp2_with fail
  refine TK.out.mono ?_
  rintro e w5 ⟨rfl, h5, k5⟩
  have R5 := Lib.hid (And.intro h5 (K5.out.trans k5))
  clear h5 k5
  go_wp2_with fail
  go_ret3
  exact ⟨rfl, R5.out.1, R5.out.2⟩
end Go.Proofs.Ythnjacfpnbhfpaa.st
