/-
  Stalls: one call of both, any kind; what both answer.
-/
import Derived.Test.YthnjacfpnbhfpaaStY
import Derived.Test.YthnjacfpnbhfpaaStU
import Derived.Test.YthnjacfpnbhfpaaStK
namespace Go.Proofs.Ythnjacfpnbhfpaa.st
open Go.RowKit
open base (ret_bool ret_int made up Blk Only)
open rk mk
set_option linter.unusedVariables false
set_option linter.unusedSimpArgs false
variable {B C g bs bw : Nat} {w w1 w2 w' : World} {s : S3} {tot : Int} {m : Nat} {T : List C2} {G : List G3}

/-- what one call of both leaves -/
def StepR (B C g bs bw : Nat) (m a b : Nat) (w : World) (e : Ending) (w' : World) : Prop := ∃ s2 T2 G2 va vb, e = .returned (.tuple #[.agg #[va, vb], .bool true]) ∧ SX w' B g bs bw s2 (sumT T2) (m + 1) ∧ Own E2 w' C 71 va T2 ∧ Own E3 w' C 69 vb G2 ∧ Chg B w w' ∧ Rel s2 (T2, G2) ∧ T2.length ≤ a + 1 ∧ G2.length ≤ b + 1
theorem StepP.r {l : LS} {s2 : S3} {tot2 : Int} {m2 a b : Nat} {e : Ending} (h : StepP B C g bs bw s2 l tot2 m2 w e w') (h1 : m2 ≤ m + 1) (h2 : tot2 = sumT l.1) (R : Rel s2 l) (h3 : l.1.length ≤ a + 1) (h4 : l.2.length ≤ b + 1) : StepR B C g bs bw m a b w e w' := by
  obtain ⟨T2, G2⟩ := l
  obtain ⟨va, vb, he, k1, k2, k3, k4⟩ := h
  subst h2
  exact ⟨s2, T2, G2, va, vb, he, k1.mono h1, k2, k3, k4, R, h3, h4⟩
theorem sum_le (h : Gd s) (R : Rel s (T, G)) (hl : T.length ≤ 900) : -1152921504606846976 ≤ sumT T ∧ sumT T ≤ 1152921504606846976 := by
  have := sum_bd h R T.length (Nat.le_refl _)
  rw [List.take_length] at this
  omega
theorem step_any (k0 k1 k2 k3 : Int) (At : Option Addr) (ct : Nat) (T : List C2) (Ag : Option Addr) (cg : Nat) (G : List G3) (H : SX w B g bs bw s (sumT T) m) (R : Rel s (T, G)) (hm : m ≤ 900) (hl : T.length ≤ 900) (hg : G.length ≤ 900) (oT : Own E2 w C 71 (.slice At T.length ct) T) (oG : Own E3 w C 69 (.slice Ag G.length cg) G) (hB : B ≤ w.heap.size) (hC : C ≤ w.heap.size) (hw1 : (Lit.int .i64 k1).wf = true) (hw2 : (Lit.int .i64 k2).wf = true) :
    Calls Try.prog 9 #[.pointer (some ⟨g, 0, none⟩), .agg #[.slice At T.length ct, .slice Ag G.length cg], .agg #[.int .i64 k0, .int .i64 k1, .int .i64 k2, .int .i64 k3]] w (StepR B C g bs bw m T.length G.length w) := by
  have ht := sum_le H.gd R hl
  by_cases q1 : k0 = 1
  · subst q1
    refine (step_1 At ct T Ag cg G H R hm hl hg oT oG hB hC hw1).mono (fun e w' h => h.r (Nat.le_refl _) (sum_open k1).symm (rel_open R H.gd k1) ?_ ?_)
    · unfold ropenL
      split
      · exact Nat.le_of_eq (len_ins ..)
      · exact Nat.le_succ _
    · unfold ropenL
      split <;> exact Nat.le_succ _
  by_cases q2 : k0 = 2
  · subst q2
    refine (step_2 At ct T Ag cg G H R hm hl hg oT oG hB hC hw1 hw2).mono (fun e w' h => h.r (Nat.le_refl _) ?_ (rel_put R H.gd k1 k2 k3) ?_ ?_)
    · unfold rputL
      split <;> rfl
    · unfold rputL
      split <;> exact Nat.le_succ _
    · unfold rputL
      split
      · exact Nat.le_of_eq (len_ins ..)
      · exact Nat.le_succ _
  by_cases q3 : k0 = 3
  · subst q3
    refine (step_3 At ct T Ag cg G H R hm hl hg oT oG hB hC hw2).mono (fun e w' h => h.r (Nat.le_succ _) ?_ (rel_take R k2) ?_ ?_)
    · unfold rtakeL
      split <;> rfl
    · unfold rtakeL
      split <;> exact Nat.le_succ _
    · unfold rtakeL
      split
      · exact Nat.le_succ_of_le (woG_len ..)
      · exact Nat.le_succ _
  by_cases q4 : k0 = 4
  · subst q4
    cases hG : s.G k2 with
    | none =>
      refine (step_4e At ct T Ag cg G (er := 14) H R hm hl hg oT oG hB hC rfl (fun W o1 o2 h => rsell_none At ct T Ag cg G k2 W o1 o2 (by omega) (by omega) h (R.gnone.1 hG)) (fun W h hb => sell_none k2 h hw2 hG)).mono (fun e w' h => h.r (Nat.le_succ _) rfl R (Nat.le_succ _) (Nat.le_succ _))
    | some d =>
      obtain ⟨n, p⟩ := d
      obtain ⟨gT, -, -, p0, p1⟩ := H.gd.good k2 n p hG
      obtain ⟨u, hT⟩ := Option.isSome_iff_exists.1 gT
      obtain ⟨-, -, u0, u1⟩ := H.gd.till n u hT
      by_cases ho : 1099511627776 < u + p
      · obtain ⟨i, hi, q, hd⟩ := R.gfind hG
        obtain ⟨j, hj, q2, hu⟩ := R.tfind hT
        refine (step_4e At ct T Ag cg G (er := 15) H R hm hl hg oT oG hB hC rfl (fun W o1 o2 h => (rsell_some At ct T Ag cg G k2 W o1 o2 (by omega) (by omega) h R.rg i j q n k2 p hi hd q2 hj u hu u0 u1 p0 p1).mono (fun _ _ h => h.1 ho)) (fun W h hb => sell_over k2 n p u h hG hT ho)).mono (fun e w' h => h.r (Nat.le_succ _) rfl R (Nat.le_succ _) (Nat.le_succ _))
      · refine (step_4s At ct T Ag cg G H R hm hl hg oT oG hB hC hG hT (by omega) ht).mono (fun e w' h => h.r (Nat.le_succ _) ?_ ?_ ?_ ?_)
        · show sumT T + p = sumT (setL T n (u + p))
          rw [sum_set R hT]
          omega
        · have R1 := rel_set R (v := u + p) hT
          exact rel_takeS R1 (n := n) (t := k2) (p := p) hG
        · exact Nat.le_trans (Nat.le_of_eq (set_len ..)) (Nat.le_succ _)
        · exact Nat.le_succ_of_le (woG_len ..)
  by_cases q5 : k0 = 5
  · subst q5
    cases hT : s.T k1 with
    | none =>
      refine (step_5n At ct T Ag cg G H R hm hl hg oT oG hB hC hw1 hT).mono (fun e w' h => h.r (Nat.le_succ _) rfl R (Nat.le_succ _) (Nat.le_succ _))
    | some u =>
      refine (step_5s At ct T Ag cg G H R hm hl hg oT oG hB hC hT ht).mono (fun e w' h => h.r (Nat.le_succ _) ?_ (rel_set R hT) (Nat.le_trans (Nat.le_of_eq (set_len ..)) (Nat.le_succ _)) (Nat.le_succ _))
      show sumT T - u = sumT (setL T k1 0)
      rw [sum_set R hT]
      omega
  by_cases q6 : k0 = 6
  · subst q6
    cases hT : s.T k1 with
    | none =>
      refine (step_6n At ct T Ag cg G H R hm hl hg oT oG hB hC hw1 hT).mono (fun e w' h => h.r (Nat.le_succ _) rfl R (Nat.le_succ _) (Nat.le_succ _))
    | some u =>
      refine (step_6s At ct T Ag cg G H R hm hl hg oT oG hB hC hT ht).mono (fun e w' h => h.r (Nat.le_succ _) (sum_close R hT).symm (rel_close R H.gd hT) (Nat.le_succ_of_le (woT_len ..)) (Nat.le_succ_of_le (woH_len ..)))
  · exact (step_0 At ct T Ag cg G H R hm hl hg oT oG hB hC q1 q2 q3 q4 q5 q6).mono (fun e w' h => h.r (Nat.le_succ _) rfl R (Nat.le_succ _) (Nat.le_succ _))
theorem hasX (n : Int) (H : SX w B g bs bw s tot m) (hw : (Lit.int .i64 n).wf = true) :
    Calls Try.prog 13 #[.pointer (some ⟨g, 0, none⟩), .int .i64 n] w fun e w' => e = .returned (.bool (s.T n).isSome) ∧ w = w' := by
  obtain ⟨nT, nG, P, M, h1, a, b⟩ := H
  exact has_any n h1 hw
theorem priceX (n : Int) (H : SX w B g bs bw s tot m) (hw : (Lit.int .i64 n).wf = true) :
    Calls Try.prog 11 #[.pointer (some ⟨g, 0, none⟩), .int .i64 n] w fun e w' => e = .returned (.tuple #[.int .i64 (prA s n), .int .i64 (prB s n), .int .i64 (prE s n)]) ∧ Below w.heap.size w w' := by
  obtain ⟨nT, nG, P, M, h1, a, b⟩ := H
  exact price_any n h1 hw
theorem prE_is (n : Int) : (prE s n == 0) = (s.G n).isSome := by
  unfold prE
  cases s.G n <;> rfl
theorem ixI_is (o : Option Nat) : decide (0 ≤ ixI o) = o.isSome := by
  cases o with
  | none => rfl
  | some i => exact decide_eq_true (Int.natCast_nonneg i)
end Go.Proofs.Ythnjacfpnbhfpaa.st
