/-
  Contracts of package stall: Open, Put, Take, Collect, Sell.
-/
import Derived.Test.YthnjacfpnbhfpaaStC
import Derived.Test.YthnjacfpnbhfpaaBase2
namespace Go.Proofs.Ythnjacfpnbhfpaa.st
open Go.RowKit
open base (ret_bool ret_int made up Blk Only)
open rk mk
set_option linter.unusedVariables false
set_option linter.unusedSimpArgs false
variable {B g bs bw : Nat} {w w1 w2 w' : World} {s : S3} {tot : Int} {nT nG m : Nat} {P M : Int → Nat}

def SX (w : World) (B g bs bw : Nat) (s : S3) (tot : Int) (m : Nat) : Prop := ∃ nT nG P M, SAt w B g bs bw s tot nT nG P M ∧ nT ≤ m ∧ nG ≤ m
theorem SX.below {w1 : World} (H : SX w B g bs bw s tot m) (hb : Below w.heap.size w w1) : SX w1 B g bs bw s tot m := by
  obtain ⟨nT, nG, P, M, h, a, b⟩ := H
  exact ⟨nT, nG, P, M, h.below hb, a, b⟩
theorem SX.mono {m' : Nat} (H : SX w B g bs bw s tot m) (h : m ≤ m') : SX w B g bs bw s tot m' := by
  obtain ⟨nT, nG, P, M, h1, a, b⟩ := H
  exact ⟨nT, nG, P, M, h1, by omega, by omega⟩
theorem SX.gd (H : SX w B g bs bw s tot m) : Gd s := by
  obtain ⟨nT, nG, P, M, h1, a, b⟩ := H
  exact h1.gd
theorem SAt.sx (H : SAt w B g bs bw s tot nT nG P M) (h1 : nT ≤ m) (h2 : nG ≤ m) : SX w B g bs bw s tot m := ⟨nT, nG, P, M, H, h1, h2⟩
/-- what a call that changes stalls says -/
def Did (B g bs bw : Nat) (s : S3) (tot : Int) (m : Nat) (e0 : Int) (w : World) (e : Ending) (w' : World) : Prop := e = .returned (.int .i64 e0) ∧ SX w' B g bs bw s tot m ∧ Chg B w w'

def openE (s : S3) (n : Int) : Int := if n < 1 then 10 else if (s.T n).isSome then 13 else 0
def openR (s : S3) (n : Int) : S3 := if n < 1 then s else if (s.T n).isSome then s else openS s n
set_option maxRecDepth 100000 in
set_option maxHeartbeats 2000000 in
theorem open_any (n : Int) (H : SX w B g bs bw s tot m) (hm : m ≤ 1000) (hw : (Lit.int .i64 n).wf = true) (hB : B ≤ w.heap.size) :
    Calls Try.prog 15 #[.pointer (some ⟨g, 0, none⟩), .int .i64 n] w (Did B g bs bw (openR s n) tot (m + 1) (openE s n) w) := by
  by_cases q1 : n < 1
  · have e1 : openE s n = 10 := by unfold openE; rw [if_pos q1]
    have e2 : openR s n = s := by unfold openR; rw [if_pos q1]
    rw [e1, e2]
    have HH := Lib.hid (H.mono (Nat.le_succ m))
    clear H e1 e2
    go_enter Try.func15, Try.ntmps15
    go_wp2_with fail
    go_ret
    exact ⟨rfl, HH.out, Chg.refl _ _⟩
  obtain ⟨nT, nG, P, M, h1, a, b⟩ := H
  have HS := Lib.hid (has_any n h1 hw)
  cases q2 : (s.T n).isSome with
  | true =>
    have e1 : openE s n = 13 := by unfold openE; rw [if_neg q1, if_pos q2]
    have e2 : openR s n = s := by unfold openR; rw [if_neg q1, if_pos q2]
    rw [e1, e2]
    rw [q2] at HS
    have HH := Lib.hid (h1.sx (m := m + 1) (by omega) (by omega))
    clear h1 e1 e2 q2
    go_enter Try.func15, Try.ntmps15
    go_wp2_with fail
    refine HS.out.mono ?_
    rintro e w1 ⟨rfl, rfl⟩
    go_wp2_with fail
    go_ret
    exact ⟨rfl, HH.out, Chg.refl _ _⟩
  | false =>
    have e1 : openE s n = 0 := by unfold openE; rw [if_neg q1, if_neg (by rw [q2]; simp)]
    have e2 : openR s n = openS s n := by unfold openR; rw [if_neg q1, if_neg (by rw [q2]; simp)]
    rw [e1, e2]
    rw [q2] at HS
    have hn : s.T n = none := by
      cases k : s.T n with
      | none => rfl
      | some t => rw [k] at q2; cases q2
    obtain ⟨w3, hrun, h3, c3⟩ := h1.opened (n := n) (by omega) (base.range64 hw).2 hn (by omega) hB
    have H3 := Lib.hid (h3.sx (m := m + 1) (by omega) (by omega))
    have C3 := Lib.hid c3
    have c0 := h1.blk.cell 0
    have hmm := @run_makeMap Try.prog
    clear h1 e1 e2 q2 h3 c3 hn
    go_enter Try.func15, Try.ntmps15
    go_wp2_with fail
    refine HS.out.mono ?_
    rintro e w1 ⟨rfl, rfl⟩
    go_wp2_with fail
    go_ret
    exact ⟨rfl, H3.out, C3.out⟩

def putE (s : S3) (n t p : Int) : Int := if (s.T n).isSome = false then 14 else if t < 1 then 10 else if p < 1 ∨ 1099511627776 < p then 11 else if (s.G t).isSome then 13 else if 16 ≤ s.c n then 12 else 0
def putR (s : S3) (n t p : Int) : S3 := if putE s n t p = 0 then putS s n t p else s
set_option maxRecDepth 100000 in
set_option maxHeartbeats 4000000 in
theorem put_any (n t p : Int) (H : SX w B g bs bw s tot m) (hm : m ≤ 1000) (hw : (Lit.int .i64 n).wf = true) (hwt : (Lit.int .i64 t).wf = true) :
    Calls Try.prog 16 #[.pointer (some ⟨g, 0, none⟩), .int .i64 n, .int .i64 t, .int .i64 p] w (Did B g bs bw (putR s n t p) tot (m + 1) (putE s n t p) w) := by
  obtain ⟨nT, nG, P, M, h1, a, b⟩ := H
  have c0 := h1.blk.cell 0
  have c1 := h1.blk.cell 1
  have HH := Lib.hid (h1.sx (m := m + 1) (by omega) (by omega))
  have lk := h1.s_ok hw
  have RI := Lib.hid (gold.right_any p w)
  cases qT : s.T n with
  | none =>
    have e1 : putE s n t p = 14 := by unfold putE; rw [if_pos (by rw [qT]; rfl)]
    have e2 : putR s n t p = s := by unfold putR; rw [if_neg (by rw [e1]; decide)]
    rw [e1, e2]
    have e3 : ptr s.T P n = none := by unfold ptr; rw [qT]; rfl
    rw [qT, e3] at lk
    replace lk : (Instr.lookup 64 (.map (some bs)) (.int .i64 n) true).run Try.prog w = .ok (.tuple #[.pointer none, .bool false]) w := lk
    clear h1 e1 e2 e3 qT RI
    go_enter Try.func16, Try.ntmps16
    go_wp2_with fail
    go_ret
    exact ⟨rfl, HH.out, Chg.refl _ _⟩
  | some u =>
  have e3 : ptr s.T P n = some (.pointer (some ⟨P n, 0, none⟩)) := by unfold ptr; rw [qT]; rfl
  have eT : ¬ (s.T n).isSome = false := by rw [qT]; simp
  rw [qT, e3] at lk
  replace lk : (Instr.lookup 64 (.map (some bs)) (.int .i64 n) true).run Try.prog w = .ok (.tuple #[.pointer (some ⟨P n, 0, none⟩), .bool true]) w := lk
  by_cases q1 : t < 1
  · have e1 : putE s n t p = 10 := by unfold putE; rw [if_neg eT, if_pos q1]
    have e2 : putR s n t p = s := by unfold putR; rw [if_neg (by rw [e1]; decide)]
    rw [e1, e2]
    clear h1 e1 e2 e3 qT RI eT
    go_enter Try.func16, Try.ntmps16
    go_wp2_with fail
    go_ret
    exact ⟨rfl, HH.out, Chg.refl _ _⟩
  by_cases q2 : p < 1
  · have e1 : putE s n t p = 11 := by unfold putE; rw [if_neg eT, if_neg q1, if_pos (.inl q2)]
    have e2 : putR s n t p = s := by unfold putR; rw [if_neg (by rw [e1]; decide)]
    rw [e1, e2]
    clear h1 e1 e2 e3 qT RI eT
    go_enter Try.func16, Try.ntmps16
    go_wp2_with fail
    go_ret
    exact ⟨rfl, HH.out, Chg.refl _ _⟩
  by_cases q3 : 1099511627776 < p
  · have e1 : putE s n t p = 11 := by unfold putE; rw [if_neg eT, if_neg q1, if_pos (.inr q3)]
    have e2 : putR s n t p = s := by unfold putR; rw [if_neg (by rw [e1]; decide)]
    rw [e1, e2]
    rw [show gold.isRight p = false by simp [gold.isRight]; omega] at RI
    clear h1 e1 e2 e3 qT eT
    go_enter Try.func16, Try.ntmps16
    go_wp2_with fail
    refine RI.out.mono ?_
    rintro e w1 ⟨rfl, rfl⟩
    go_wp2_with fail
    go_ret
    exact ⟨rfl, HH.out, Chg.refl _ _⟩
  have eP : ¬ (p < 1 ∨ 1099511627776 < p) := by omega
  rw [show gold.isRight p = true from gold.right_mk (by omega) (by omega)] at RI
  have l2 := h1.w_ok hwt
  cases qG : s.G t with
  | some d =>
    have e1 : putE s n t p = 13 := by unfold putE; rw [if_neg eT, if_neg q1, if_neg eP, if_pos (by rw [qG]; rfl)]
    have e2 : putR s n t p = s := by unfold putR; rw [if_neg (by rw [e1]; decide)]
    rw [e1, e2]
    rw [qG] at l2
    obtain ⟨d1, d2⟩ := d
    replace l2 : (Instr.lookup 65 (.map (some bw)) (.int .i64 t) true).run Try.prog w = .ok (.tuple #[.int .i64 d1, .bool true]) w := l2
    clear h1 e1 e2 e3 qT eT qG
    go_enter Try.func16, Try.ntmps16
    go_wp2_with fail
    refine RI.out.mono ?_
    rintro e w1 ⟨rfl, rfl⟩
    go_wp2_with fail
    go_ret
    exact ⟨rfl, HH.out, Chg.refl _ _⟩
  | none =>
  rw [qG] at l2
  replace l2 : (Instr.lookup 65 (.map (some bw)) (.int .i64 t) true).run Try.prog w = .ok (.tuple #[.int .i64 0, .bool false]) w := l2
  have eG : ¬ (s.G t).isSome = true := by rw [qG]; simp
  have on := h1.one n u qT
  have p1 := on.blk.cell 1
  have ln := fun ty => MapIs.len (t := 65) (e := 3) on.map Try.underlying65 ty
  by_cases q4 : 16 ≤ s.c n
  · have e1 : putE s n t p = 12 := by unfold putE; rw [if_neg eT, if_neg q1, if_neg eP, if_neg eG, if_pos q4]
    have e2 : putR s n t p = s := by unfold putR; rw [if_neg (by rw [e1]; decide)]
    rw [e1, e2]
    generalize s.c n = z at *
    have zz : decide ((z : Int) ≥ 16) = true := decide_eq_true (by omega)
    have zz2 : decide (16 ≤ (z : Int)) = true := decide_eq_true (by omega)
    clear h1 e1 e2 e3 qT eT qG eG on
    go_enter Try.func16, Try.ntmps16
    go_wp2_with fail
    refine RI.out.mono ?_
    rintro e w1 ⟨rfl, rfl⟩
    go_wp2_with fail
    go_ret
    exact ⟨rfl, HH.out, Chg.refl _ _⟩
  · have e1 : putE s n t p = 0 := by unfold putE; rw [if_neg eT, if_neg q1, if_neg eP, if_neg eG, if_neg q4]
    have e2 : putR s n t p = putS s n t p := by unfold putR; rw [if_pos e1]
    rw [e1, e2]
    obtain ⟨v1, hr1, d1, v2, hr2, h2, c2⟩ := h1.puts (p := p) qT (by omega) (base.range64 hwt).2 (by omega) (by omega) qG (by omega) (by omega)
    have H2 := Lib.hid (h2.sx (m := m + 1) (by omega) (by omega))
    have C2_ := Lib.hid c2
    generalize s.c n = z at *
    have zz : decide ((z : Int) ≥ 16) = false := decide_eq_false (by omega)
    have zz2 : decide (16 ≤ (z : Int)) = false := decide_eq_false (by omega)
    clear h1 e1 e2 e3 qT eT qG eG on h2 c2 HH
    go_enter Try.func16, Try.ntmps16
    go_wp2_with fail
    refine RI.out.mono ?_
    rintro e w1 ⟨rfl, rfl⟩
    go_wp2_with fail
    go_ret
    exact ⟨rfl, H2.out, C2_.out⟩

def takeE (s : S3) (t : Int) : Int := match s.G t with | some _ => 0 | none => 14
def takeR (s : S3) (t : Int) : S3 := match s.G t with | some (n, _) => takeS s n t | none => s
set_option maxRecDepth 100000 in
set_option maxHeartbeats 2000000 in
theorem take_any (t : Int) (H : SX w B g bs bw s tot m) (hm : m ≤ 1000) (hwt : (Lit.int .i64 t).wf = true) :
    Calls Try.prog 17 #[.pointer (some ⟨g, 0, none⟩), .int .i64 t] w (Did B g bs bw (takeR s t) tot m (takeE s t) w) := by
  have HH := Lib.hid H
  obtain ⟨nT, nG, P, M, h1, a, b⟩ := H
  have c1 := h1.blk.cell 1
  have l2 := h1.w_ok hwt
  cases qG : s.G t with
  | none =>
    have e1 : takeE s t = 14 := by unfold takeE; rw [qG]
    have e2 : takeR s t = s := by unfold takeR; rw [qG]
    rw [e1, e2]
    rw [qG] at l2
    replace l2 : (Instr.lookup 65 (.map (some bw)) (.int .i64 t) true).run Try.prog w = .ok (.tuple #[.int .i64 0, .bool false]) w := l2
    clear h1 e1 e2 qG
    go_enter Try.func17, Try.ntmps17
    go_wp2_with fail
    go_ret
    exact ⟨rfl, HH.out, Chg.refl _ _⟩
  | some d =>
    obtain ⟨n, p⟩ := d
    have e1 : takeE s t = 0 := by unfold takeE; rw [qG]
    have e2 : takeR s t = takeS s n t := by unfold takeR; rw [qG]
    rw [e1, e2]
    rw [qG] at l2
    replace l2 : (Instr.lookup 65 (.map (some bw)) (.int .i64 t) true).run Try.prog w = .ok (.tuple #[.int .i64 n, .bool true]) w := l2
    obtain ⟨v1, r1, d1, d2, l3, v2, r2, h2, c2⟩ := h1.takes qG
    have H2 := Lib.hid (h2.sx (m := m) a (by omega))
    have C2_ := Lib.hid c2
    clear h1 e1 e2 qG h2 c2 HH
    go_enter Try.func17, Try.ntmps17
    go_wp2_with fail
    go_ret
    exact ⟨rfl, H2.out, C2_.out⟩
end Go.Proofs.Ythnjacfpnbhfpaa.st
