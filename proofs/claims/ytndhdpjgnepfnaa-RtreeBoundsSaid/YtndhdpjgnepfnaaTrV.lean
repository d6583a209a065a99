/-
  R-trees: a thing is taken out of a leaf.
-/
import Derived.Test.YtndhdpjgnepfnaaTrU
namespace Go.Proofs.Ytndhdpjgnepfnaa.tr
open Go.RowKit
open base (ret_bool ret_int made up Blk Only)
open rk (Lay)
open rect
set_option linter.unusedVariables false
set_option linter.unusedSimpArgs false
attribute [local go_sem] Oper.semAt_some

theorem Rem.under {h g : Nat} {v : Value} {X : List Ex} {t : Th} {lo : Nat} {vl : Value} {O : List (En × Nat)} {w w1 w' : World} {v' : Value} {X' : List Ex} {vl' : Value} {Os : List Og} (hb : Below w.heap.size w w1) (r : Rem h g v X t lo vl O w1 w' v' X' vl' Os) : Rem h g v X t lo vl O w w' v' X' vl' Os :=
  ⟨r.nd, r.less, r.more, r.perm, r.ls, r.ent, r.sub, r.osub, r.oap, r.few, fun k e => (r.own k e).imp id (fun q => Nat.le_trans hb.size q), (Only.below (Only.refl _ w) hb (fun k hk hk2 => absurd hk (by omega))).trans r.only (fun _ _ q => q)⟩
def RemOK (h : Nat) : Prop := ∀ (g : Nat) (v : Value) (X : List Ex) (r : Bx) (val : Int) (lo : Nat) (vl : Value) (O : List (En × Nat)) (w : World), NdOf (Ent h) w g v X → X.length ≤ 4 → LS w lo vl O → O.length ≤ 1000 → ¬ foot g v X lo → (∀ k, vl.ownBlock = some k → ¬ foot g v X k) →
  Calls Try.prog 44 #[.pointer (some ⟨g, 0, none⟩), (.agg #[.int .i64 r.x, .int .i64 r.y, .int .i64 r.w, .int .i64 r.h]), .int .i64 val, .int .i64 h, .pointer (some ⟨lo, 0, none⟩)] w (RemP h g v X (r, val) lo vl O w)
set_option maxRecDepth 100000 in
set_option maxHeartbeats 8000000 in
theorem rem_zero : RemOK 0 := by
  intro g v X r val lo vl O w hn h4 hs hO hlo hvl
  show Calls Try.prog 44 #[.pointer (some ⟨g, 0, none⟩), (.agg #[.int .i64 r.x, .int .i64 r.y, .int .i64 r.w, .int .i64 r.h]), .int .i64 val, .int .i64 0, .pointer (some ⟨lo, 0, none⟩)] w (RemP 0 g v X (r, val) lo vl O w)
  obtain ⟨A, c, rfl, hna⟩ := hn.nat
  obtain ⟨w1, hw1⟩ : ∃ w1, w.alloc (.cells #[.int .i64 r.x, .int .i64 r.y, .int .i64 r.w, .int .i64 r.h] 28) = w1 := ⟨_, rfl⟩
  have M1 := Lib.hid (show Below w.heap.size w w1 from by rw [← hw1]; exact made w _)
  have RB := Lib.hid (show Blk w1 w.heap.size 28 #[.int .i64 r.x, .int .i64 r.y, .int .i64 r.w, .int .i64 r.h] from by rw [← hw1]; exact Blk.new _ _ _)
  have HN := Lib.hid (hn.below M1.out)
  have HS := Lib.hid (hs.below M1.out)
  have HLO := Lib.hid (And.intro hlo hvl)
  have H4 := Lib.hid h4
  have HW1 := Lib.hid hw1
  have c0 := HN.out.blk.cell 0
  clear hn h4 hs hlo hvl hna hw1
  go_enter Try.func44, Try.ntmps44
  go_upto_region 1 with fail
  have hw1 := HW1.out
  simp only [hw1]
  clear hw1 HW1
  go_wp2_with fail
  generalize hrb : w.heap.size = rb at *
  have HRB := Lib.hid hrb
  clear hrb c0
  go_loopw [20] (fun i wr => ∃ (p : Nat) (W : World), W = wr ∧ p ≤ X.length ∧ i = .int .i64 p ∧ Below w1.heap.size w1 wr ∧ ∀ (j : Nat) (hj : j < X.length), j < p → (r, val) ∉ X[j].S) (fun i _ => X.length - (intOf i).toNat)
  case atStart => exact ⟨0, _, rfl, by omega, rfl, Below.refl _ _, fun j hj h => absurd h (by omega)⟩
  case round =>
  obtain ⟨p, w5, rfl, hp, rfl, hb, hno⟩ := hrel
  have BE := Lib.hid hb
  have NO := Lib.hid hno
  have UN := Lib.hid (show Below w.heap.size w w1 from by rw [HRB.out]; exact M1.out)
  by_cases hpl : p < X.length
  · have N5 := Lib.hid (HN.out.below hb)
    obtain ⟨gr, c', cs, z0, -⟩ := N5.out.own.full (by rw [ens_len]; omega)
    injection z0 with z0 z1 z2
    subst z0
    clear z1 z2 cs c'
    have r6 := row6 (own_lay N5.out.own).1 (k := p) (by rw [ens_len]; exact hpl)
    rw [ens_get hpl] at r6
    have EN := Lib.hid (N5.out.ent X[p] (List.getElem_mem hpl))
    obtain ⟨e, he⟩ : ∃ e, X[p].e = e := ⟨_, rfl⟩
    have HE := Lib.hid he
    rw [he] at r6
    obtain ⟨P, hP⟩ : ∃ P, e.ptr = .pointer P := ⟨_, rfl⟩
    rw [hP] at r6
    obtain ⟨e0, e1, e2, e3, e4, e5⟩ := r6
    obtain ⟨wE, hwE⟩ : ∃ wE, w5.alloc (.cells #[.int .i64 e.b.x, .int .i64 e.b.y, .int .i64 e.b.w, .int .i64 e.b.h, .pointer P, .int .i64 e.v] 79) = wE := ⟨_, rfl⟩
    have ME := Lib.hid (show Below w5.heap.size w5 wE from by rw [← hwE]; exact made w5 _)
    have EB := Lib.hid (show Blk wE w5.heap.size 79 #[.int .i64 e.b.x, .int .i64 e.b.y, .int .i64 e.b.w, .int .i64 e.b.h, .pointer P, .int .i64 e.v] from by rw [← hwE]; exact Blk.new _ _ _)
    have RE := Lib.hid ((RB.out.below hb RB.out.lt).below ME.out (Nat.lt_of_lt_of_le RB.out.lt hb.size))
    have BF := Lib.hid (up BE.out ME.out BE.out.size)
    have dp : decide (p < X.length) = true := decide_eq_true hpl
    have wp1 : IntKind.i64.wrap ((p : Int) + 1) = (p : Int) + 1 := IntWalk.i64_in _ (by have := H4.out; omega)
    have i0 : (0 : Int) ≤ (p : Int) := Int.natCast_nonneg _
    have HWE := Lib.hid hwE
    clear hb hp hno hwE hP he
    go_upto_region 4 with fail
    have hwE := HWE.out
    simp only [hwE]
    clear hwE HWE e0 e1 e2 e3 e4 e5
    obtain ⟨x0, x1, x2, x3⟩ := RE.out.four
    have y0 := EB.out.cell 0
    have y1 := EB.out.cell 1
    have y2 := EB.out.cell 2
    have y3 := EB.out.cell 3
    have y5 := EB.out.cell 5
    have hg := guard_rect
    have hq := fun W => run_eql e.b r W
    have NX := Lib.hid (fun (hne : (e.b, e.v) ≠ (r, val)) => (show ∀ (j : Nat) (hj : j < X.length), j < p + 1 → (r, val) ∉ X[j].S from fun j hj hjp => by
      by_cases hjp2 : j = p
      · subst hjp2
        obtain ⟨_, q, _⟩ := EN.out
        rw [q, HE.out]
        intro q2
        rw [List.mem_singleton] at q2
        exact hne q2.symm
      · exact NO.out j hj (by omega)))
    by_cases q1 : e.b = r
    · rw [decide_eq_true q1] at hq
      have SA := Lib.hid (same_any e.v val wE)
      by_cases q2 : e.v = val
      · have q3 : (e.v == val) = true := by rw [beq_iff_eq]; exact q2
        rw [q3] at SA
        have FD := Lib.hid (show (X[p].e.b, X[p].e.v) = (r, val) from by rw [HE.out, q1, q2])
        clear q1 q2 q3 NX
        go_wp2_with fail
        refine SA.out.mono ?_
        rintro e7 w7 ⟨rfl, hb7⟩
        have B7 := Lib.hid (up BF.out hb7 BF.out.size)
        have N7 := Lib.hid (HN.out.below B7.out)
        have c0 := N7.out.blk.cell 0
        have f0 := N7.out.blk.free 0
        have DE := Lib.hid (del2 0 gr c p (ens X) w7 (by rw [ens_len]; exact N7.out.own) (by rw [ens_len]; exact hpl) (by rw [ens_len]; have := H4.out; omega))
        rw [ens_len] at DE
        clear SA hb7 x0 x1 x2 x3 y0 y1 y2 y3 y5 hq hg
        go_wp2_with fail
        refine DE.out.mono ?_
        rintro e8 w8 ⟨rfl, hod, hdo⟩
        have ND := N7.out.del hpl hod hdo
        have c1 := ND.1.cell 0
        have f1 := ND.1.free 0
        have RL := Lib.hid (rem_leaf N7.out hpl FD.out hod hdo (HS.out.below B7.out) HLO.out.1 HLO.out.2)
        have FIN := Lib.hid (Rem.under UN.out (Rem.under B7.out RL.out))
        clear DE ND hod hdo c0 f0 wp1 RL
        go_wp2_with fail
        go_ret
        exact .inr ⟨rfl, _, _, _, _, FIN.out⟩
      · have q3 : (e.v == val) = false := by rw [beq_eq_false_iff_ne]; exact q2
        rw [q3] at SA
        have NY := Lib.hid (NX.out (fun q => q2 (Prod.ext_iff.1 q).2))
        clear q1 q2 q3 NX
        go_wp2_with fail
        refine SA.out.mono ?_
        rintro e7 w7 ⟨rfl, hb7⟩
        have B7 := Lib.hid (up BF.out hb7 BF.out.size)
        clear SA hb7 x0 x1 x2 x3 y0 y1 y2 y3 y5 hq hg
        go_wp2_with fail
        clear wp1
        exact ⟨⟨p + 1, _, rfl, by have := hpl; omega, by go_num, B7.out, NY.out⟩, by have := hpl; simp [intOf]; omega⟩
    · rw [decide_eq_false q1] at hq
      have NY := Lib.hid (NX.out (fun q => q1 (Prod.ext_iff.1 q).1))
      clear q1 NX
      go_wp2_with fail
      clear wp1
      exact ⟨⟨p + 1, _, rfl, by have := hpl; omega, by go_num, BF.out, NY.out⟩, by have := hpl; simp [intOf]; omega⟩
  · obtain rfl : p = X.length := by omega
    have dp : decide (X.length < X.length) = false := decide_eq_false (by omega)
    have FA := Lib.hid (not_all (t := (r, val)) (fun j hj => NO.out j hj hj))
    have FB := Lib.hid (up UN.out BE.out UN.out.size)
    clear hb hp hno hpl
    go_wp2_with fail
    go_ret
    exact .inl ⟨rfl, FB.out, FA.out⟩
end Go.Proofs.Ytndhdpjgnepfnaa.tr
