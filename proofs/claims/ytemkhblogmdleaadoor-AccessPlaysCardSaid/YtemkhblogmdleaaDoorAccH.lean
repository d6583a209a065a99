/-
  Contracts of package access: what makes a house right, by both; a house is itself.
-/
import Derived.Test.YtemkhblogmdleaaDoorAccG
namespace Go.Proofs.YtemkhblogmdleaaDoor.ac
open Go.RowKit
open base (ret_bool ret_int made up Blk Only Nums)
set_option linter.unusedVariables false
set_option linter.unusedSimpArgs false

theorem idx3_1 (p q r : Value) : ∀ w, (Instr.index 41 (.agg #[p, q, r]) (.int .i64 1)).run Tryd.prog w = .ok q w := fun _ => by kernel_rfl
theorem on_is {l : List Int} {p : Int} (h : on l p = true) : ∃ i, i < l.length ∧ l.getD i 0 = p := by
  obtain ⟨o, ho⟩ := idx_ex l p
  cases o with
  | some k => exact ⟨k, ho.1, ho.2.1⟩
  | none => rw [on_none ho] at h; cases h
theorem on_not {l : List Int} {p : Int} (h : on l p = false) : ∀ i, i < l.length → l.getD i 0 ≠ p := by
  obtain ⟨o, ho⟩ := idx_ex l p
  cases o with
  | some k => rw [on_some ho] at h; cases h
  | none => exact fun i hi => ho i hi
def RightH (o : Int) (la lb lc : List Int) : Prop := (1 ≤ o ∧ o ≤ 256) ∧ RightL la o ∧ RightL lb o ∧ RightL lc o
def li (la lb lc : List Int) : Nat → List Int
  | 0 => la
  | 1 => lb
  | _ => lc
set_option maxRecDepth 100000 in
set_option maxHeartbeats 4000000 in
theorem hright_any (o : Int) (A : Option Addr) (ca : Nat) (la : List Int) (B : Option Addr) (cb : Nat) (lb : List Int) (C : Option Addr) (cc : Nat) (lc : List Int) (b : Bool) (hb : b = true ↔ RightH o la lb lc) (w : World) (h : Ls w A la B lb C lc) :
    Calls Tryd.prog 15 #[.agg #[.int .i64 o, .slice A la.length ca, .slice B lb.length cb, .slice C lc.length cc]] w (SmP b w) := by
  have hm := made w (.cells #[.int .i64 o, .slice A la.length ca, .slice B lb.length cb, .slice C lc.length cc] 24)
  have bx : Blk (w.alloc (.cells #[.int .i64 o, .slice A la.length ca, .slice B lb.length cb, .slice C lc.length cc] 24)) w.heap.size 24 #[.int .i64 o, .slice A la.length ca, .slice B lb.length cb, .slice C lc.length cc] := Blk.new _ _ _
  have H1 := Lib.hid hm
  have BX := Lib.hid bx
  have LS := Lib.hid (h.keep hm)
  have KX := Lib.hid (fun ws h => BX.out.below (w' := ws) h BX.out.lt)
  have b0 := bx.cell 0
  have HB := Lib.hid hb
  have LI := Lib.hid (lists_any w.heap.size (w.alloc (.cells #[.int .i64 o, .slice A la.length ca, .slice B lb.length cb, .slice C lc.length cc] 24)))
  obtain ⟨bo, hbo⟩ := ex_bool (1 ≤ o ∧ o ≤ 256)
  have PE := Lib.hid (fun ws => person_any o bo hbo ws)
  have BO := Lib.hid hbo
  clear hm bx hb h hbo BX
  generalize hw1 : w.alloc (.cells #[.int .i64 o, .slice A la.length ca, .slice B lb.length cb, .slice C lc.length cc] 24) = w1 at *
  cases bo with
  | false =>
    obtain rfl := not_of HB.out (fun r => by have := BO.out.2 r.1; simp at this)
    go_enter Tryd.func15, Tryd.ntmps15
    go_wp2_with (rw [hw1])
    refine (PE.out _).mono ?_
    rintro e w2 ⟨rfl, e2⟩
    subst w2
    go_wp2_with fail
    go_ret
    exact ⟨rfl, H1.out⟩
  | true =>
    go_enter Tryd.func15, Tryd.ntmps15
    go_wp2_with (rw [hw1])
    refine (PE.out _).mono ?_
    rintro e w2 ⟨rfl, e2⟩
    subst w2
    clear PE
    go_wp2_with fail
    refine LI.out.mono ?_
    rintro e w2 ⟨rfl, hb2⟩
    have B2 := Lib.hid hb2
    clear hb2 LI b0 hw1
    go_wp2_with fail
    go_loopw [12] (fun j wr => ∃ (k : Nat) (z : Int) (W : World), W = wr ∧ j = .int .i64 z ∧ z = k ∧ k ≤ 3 ∧ (∀ j, j < k → RightL (li la lb lc j) o) ∧ Below w1.heap.size w1 wr) (fun j _ => 3 - (intOf j).toNat)
    case atStart => exact ⟨0, 0, _, rfl, rfl, rfl, by omega, fun j h => by omega, B2.out⟩
    case round =>
    obtain ⟨k, z, w3, rfl, rfl, hz, hk, hdn, hbw⟩ := hrel
    have BW := Lib.hid hbw
    have DN := Lib.hid hdn
    clear hbw hdn
    have hk4 : k = 0 ∨ k = 1 ∨ k = 2 ∨ k = 3 := by omega
    rcases hk4 with rfl | rfl | rfl | rfl
    · obtain rfl : z = 0 := by omega
      clear hz hk
      have BAD := Lib.hid (fun (q : ¬ RightL la o) => not_of HB.out (fun r => q r.2.1))
      have hc0 := (KX.out _ BW.out).cell 0
      have hck := (KX.out _ BW.out).cell 1
      have NL := Lib.hid (fun ws (h : Below w1.heap.size w1 ws) => (LS.out.keep h).a)
      have ll := LS.out.la
      have ix := idx3_0 (.pointer (some ⟨w.heap.size, 1, none⟩)) (.pointer (some ⟨w.heap.size, 2, none⟩)) (.pointer (some ⟨w.heap.size, 3, none⟩))
      by_cases q1 : 16 < la.length
      · have d1 : decide ((16 : Int) < (la.length : Int)) = true := decide_eq_true (by omega)
        obtain rfl := BAD.out (fun r => by have := r.1; omega)
        clear BAD HB
        go_wp2_with fail
        go_quiet (fail)
        go_wp2_with fail
        go_ret
        exact ⟨rfl, up H1.out (below_drewN BW.out _) H1.out.size⟩
      have d1 : decide ((16 : Int) < (la.length : Int)) = false := by simp; omega
      have CT := Lib.hid (fun ws h => contains_any A ca la o ws (NL.out ws h) ll)
      cases hon : on la o with
      | true =>
        rw [hon] at CT
        obtain rfl := BAD.out (fun r => by
          obtain ⟨i, hi, e⟩ := on_is hon
          exact (r.2 i hi).2.2.1 e)
        clear BAD HB hon
        go_wp2_with fail
        go_quiet (first | (go_at_call 25; exact Calls.quiet_of_same (CT.out _ (below_drewN BW.out _))))
        go_wp2_with fail
        go_ret
        exact ⟨rfl, up H1.out (below_drewN BW.out _) H1.out.size⟩
      | false =>
        rw [hon] at CT
        have NON := Lib.hid (on_not hon)
        clear hon
        go_wp2_with fail
        go_quiet (first | (go_at_call 25; exact Calls.quiet_of_same (CT.out _ (below_drewN BW.out _))))
        clear CT
        have BX4 := Lib.hid (below_drewN BW.out nq)
        have hck4 := (KX.out _ BX4.out).cell 1
        clear hc0 hck
        go_wp2_with fail
        clear hck4
        go_loopw [32] (fun j wr => ∃ (i : Nat) (W : World), W = wr ∧ j = .int .i64 i ∧ i ≤ la.length ∧ (∀ m, m < i → GoodAt la o m) ∧ Below w1.heap.size w1 wr) (fun j _ => la.length - (intOf j).toNat)
        case atStart => exact ⟨0, _, rfl, rfl, by omega, fun m h => by omega, BX4.out⟩
        case round =>
          obtain ⟨k, w5, rfl, rfl, hk, hno, hbw⟩ := hrel
          have B5 := Lib.hid hbw
          have NO := Lib.hid hno
          clear hbw hno
          by_cases hkl : k < la.length
          · have hck := (KX.out _ B5.out).cell 1
            have bad : ¬ GoodAt la o k → b = false := fun q => BAD.out (fun r => q (r.2 k hkl))
            have BAD2 := Lib.hid bad
            clear bad
            obtain ⟨g, off, e1, hc⟩ := nat (NL.out _ B5.out) hkl
            obtain ⟨v, hv⟩ : ∃ v, v = la.getD k 0 := ⟨_, rfl⟩
            rw [← hv] at hc
            have V := Lib.hid hv
            have NN := Lib.hid (NON.out k hkl)
            clear hv
            obtain ⟨bp, hbp⟩ := ex_bool (1 ≤ v ∧ v ≤ 256)
            have PE := Lib.hid (fun ws => person_any v bp hbp ws)
            have BP := Lib.hid hbp
            clear hbp
            cases bp with
            | false =>
              obtain rfl := BAD2.out (fun r => by have := BP.out.2 ⟨by have := r.1; rwa [← V.out] at this, by have := r.2.1; rwa [← V.out] at this⟩; simp at this)
              clear BAD BAD2 HB
              subst e1
              go_wp2_with fail
              refine (PE.out _).mono ?_
              rintro e w6 ⟨rfl, e6⟩
              subst w6
              go_wp2_with fail
              go_ret
              exact ⟨rfl, up H1.out (B5.out) H1.out.size⟩
            | true =>
              have hv12 := BP.out.1 (by simp)
              have V12 := Lib.hid hv12
              clear hv12
              cases k with
              | zero =>
                rw [Nat.add_zero] at hc
                subst e1
                go_wp2_with fail
                refine (PE.out _).mono ?_
                rintro e w6 ⟨rfl, e6⟩
                subst w6
                go_wp2_with fail
                refine ⟨⟨1, _, rfl, by go_num, by omega, fun m hm => ?_, B5.out⟩, by simp [intOf]; omega⟩
                obtain rfl : m = 0 := by omega
                exact ⟨by rw [← V.out]; exact V12.out.1, by rw [← V.out]; exact V12.out.2, NN.out, by omega⟩
              | succ m =>
                obtain ⟨g2, off2, e2, hc2⟩ := nat (NL.out _ B5.out) (show m < la.length by omega)
                rw [e1] at e2
                injection e2 with e2
                injection e2 with e3 e4
                subst e3
                subst e4
                obtain ⟨u, hu⟩ : ∃ u, u = la.getD m 0 := ⟨_, rfl⟩
                rw [← hu] at hc2
                have U := Lib.hid hu
                have hw : IntKind.i64.wrap (((m + 1 : Nat) : Int) - 1) = (m : Int) := by rw [show ((m + 1 : Nat) : Int) - 1 = m by omega]; exact IntWalk.i64_in _ (by omega)
                clear hu
                by_cases q5 : v ≤ u
                · have d5 : decide (v ≤ u) = true := by simpa using q5
                  obtain rfl := BAD2.out (fun r => by
                    have := r.2.2.2 (by omega)
                    rw [← V.out, show m + 1 - 1 = m by omega, ← U.out] at this
                    omega)
                  clear BAD BAD2 HB
                  subst e1
                  go_wp2_with fail
                  refine (PE.out _).mono ?_
                  rintro e w6 ⟨rfl, e6⟩
                  subst w6
                  go_wp2_with fail
                  go_ret
                  exact ⟨rfl, up H1.out (B5.out) H1.out.size⟩
                · have d5 : decide (v ≤ u) = false := by simpa using q5
                  clear BAD2
                  subst e1
                  go_wp2_with fail
                  refine (PE.out _).mono ?_
                  rintro e w6 ⟨rfl, e6⟩
                  subst w6
                  go_wp2_with fail
                  refine ⟨⟨m + 1 + 1, _, rfl, by go_num, by omega, fun i hi => ?_, B5.out⟩, by simp [intOf]; omega⟩
                  by_cases e : i = m + 1
                  · subst e
                    refine ⟨by rw [← V.out]; exact V12.out.1, by rw [← V.out]; exact V12.out.2, NN.out, fun _ => ?_⟩
                    rw [← V.out, show m + 1 - 1 = m by omega, ← U.out]
                    omega
                  · exact NO.out i (by omega)
          · have RG := Lib.hid (show RightL la o from ⟨by omega, fun i hi => NO.out i (by omega)⟩)
            clear BAD
            go_wp2_with fail
            refine ⟨⟨1, 1, _, rfl, rfl, rfl, by omega, fun j hj => by
            rcases Nat.lt_succ_iff_lt_or_eq.1 hj with q | q
            · exact DN.out j q
            · subst q; exact RG.out, B5.out⟩, by simp [intOf]⟩
    · obtain rfl : z = 1 := by omega
      clear hz hk
      have BAD := Lib.hid (fun (q : ¬ RightL lb o) => not_of HB.out (fun r => q r.2.2.1))
      have hc0 := (KX.out _ BW.out).cell 0
      have hck := (KX.out _ BW.out).cell 2
      have NL := Lib.hid (fun ws (h : Below w1.heap.size w1 ws) => (LS.out.keep h).b)
      have ll := LS.out.lb
      have ix := idx3_1 (.pointer (some ⟨w.heap.size, 1, none⟩)) (.pointer (some ⟨w.heap.size, 2, none⟩)) (.pointer (some ⟨w.heap.size, 3, none⟩))
      by_cases q1 : 16 < lb.length
      · have d1 : decide ((16 : Int) < (lb.length : Int)) = true := decide_eq_true (by omega)
        obtain rfl := BAD.out (fun r => by have := r.1; omega)
        clear BAD HB
        go_wp2_with fail
        go_quiet (fail)
        go_wp2_with fail
        go_ret
        exact ⟨rfl, up H1.out (below_drewN BW.out _) H1.out.size⟩
      have d1 : decide ((16 : Int) < (lb.length : Int)) = false := by simp; omega
      have CT := Lib.hid (fun ws h => contains_any B cb lb o ws (NL.out ws h) ll)
      cases hon : on lb o with
      | true =>
        rw [hon] at CT
        obtain rfl := BAD.out (fun r => by
          obtain ⟨i, hi, e⟩ := on_is hon
          exact (r.2 i hi).2.2.1 e)
        clear BAD HB hon
        go_wp2_with fail
        go_quiet (first | (go_at_call 25; exact Calls.quiet_of_same (CT.out _ (below_drewN BW.out _))))
        go_wp2_with fail
        go_ret
        exact ⟨rfl, up H1.out (below_drewN BW.out _) H1.out.size⟩
      | false =>
        rw [hon] at CT
        have NON := Lib.hid (on_not hon)
        clear hon
        go_wp2_with fail
        go_quiet (first | (go_at_call 25; exact Calls.quiet_of_same (CT.out _ (below_drewN BW.out _))))
        clear CT
        have BX4 := Lib.hid (below_drewN BW.out nq)
        have hck4 := (KX.out _ BX4.out).cell 2
        clear hc0 hck
        go_wp2_with fail
        clear hck4
        go_loopw [32] (fun j wr => ∃ (i : Nat) (W : World), W = wr ∧ j = .int .i64 i ∧ i ≤ lb.length ∧ (∀ m, m < i → GoodAt lb o m) ∧ Below w1.heap.size w1 wr) (fun j _ => lb.length - (intOf j).toNat)
        case atStart => exact ⟨0, _, rfl, rfl, by omega, fun m h => by omega, BX4.out⟩
        case round =>
          obtain ⟨k, w5, rfl, rfl, hk, hno, hbw⟩ := hrel
          have B5 := Lib.hid hbw
          have NO := Lib.hid hno
          clear hbw hno
          by_cases hkl : k < lb.length
          · have hck := (KX.out _ B5.out).cell 2
            have bad : ¬ GoodAt lb o k → b = false := fun q => BAD.out (fun r => q (r.2 k hkl))
            have BAD2 := Lib.hid bad
            clear bad
            obtain ⟨g, off, e1, hc⟩ := nat (NL.out _ B5.out) hkl
            obtain ⟨v, hv⟩ : ∃ v, v = lb.getD k 0 := ⟨_, rfl⟩
            rw [← hv] at hc
            have V := Lib.hid hv
            have NN := Lib.hid (NON.out k hkl)
            clear hv
            obtain ⟨bp, hbp⟩ := ex_bool (1 ≤ v ∧ v ≤ 256)
            have PE := Lib.hid (fun ws => person_any v bp hbp ws)
            have BP := Lib.hid hbp
            clear hbp
            cases bp with
            | false =>
              obtain rfl := BAD2.out (fun r => by have := BP.out.2 ⟨by have := r.1; rwa [← V.out] at this, by have := r.2.1; rwa [← V.out] at this⟩; simp at this)
              clear BAD BAD2 HB
              subst e1
              go_wp2_with fail
              refine (PE.out _).mono ?_
              rintro e w6 ⟨rfl, e6⟩
              subst w6
              go_wp2_with fail
              go_ret
              exact ⟨rfl, up H1.out (B5.out) H1.out.size⟩
            | true =>
              have hv12 := BP.out.1 (by simp)
              have V12 := Lib.hid hv12
              clear hv12
              cases k with
              | zero =>
                rw [Nat.add_zero] at hc
                subst e1
                go_wp2_with fail
                refine (PE.out _).mono ?_
                rintro e w6 ⟨rfl, e6⟩
                subst w6
                go_wp2_with fail
                refine ⟨⟨1, _, rfl, by go_num, by omega, fun m hm => ?_, B5.out⟩, by simp [intOf]; omega⟩
                obtain rfl : m = 0 := by omega
                exact ⟨by rw [← V.out]; exact V12.out.1, by rw [← V.out]; exact V12.out.2, NN.out, by omega⟩
              | succ m =>
                obtain ⟨g2, off2, e2, hc2⟩ := nat (NL.out _ B5.out) (show m < lb.length by omega)
                rw [e1] at e2
                injection e2 with e2
                injection e2 with e3 e4
                subst e3
                subst e4
                obtain ⟨u, hu⟩ : ∃ u, u = lb.getD m 0 := ⟨_, rfl⟩
                rw [← hu] at hc2
                have U := Lib.hid hu
                have hw : IntKind.i64.wrap (((m + 1 : Nat) : Int) - 1) = (m : Int) := by rw [show ((m + 1 : Nat) : Int) - 1 = m by omega]; exact IntWalk.i64_in _ (by omega)
                clear hu
                by_cases q5 : v ≤ u
                · have d5 : decide (v ≤ u) = true := by simpa using q5
                  obtain rfl := BAD2.out (fun r => by
                    have := r.2.2.2 (by omega)
                    rw [← V.out, show m + 1 - 1 = m by omega, ← U.out] at this
                    omega)
                  clear BAD BAD2 HB
                  subst e1
                  go_wp2_with fail
                  refine (PE.out _).mono ?_
                  rintro e w6 ⟨rfl, e6⟩
                  subst w6
                  go_wp2_with fail
                  go_ret
                  exact ⟨rfl, up H1.out (B5.out) H1.out.size⟩
                · have d5 : decide (v ≤ u) = false := by simpa using q5
                  clear BAD2
                  subst e1
                  go_wp2_with fail
                  refine (PE.out _).mono ?_
                  rintro e w6 ⟨rfl, e6⟩
                  subst w6
                  go_wp2_with fail
                  refine ⟨⟨m + 1 + 1, _, rfl, by go_num, by omega, fun i hi => ?_, B5.out⟩, by simp [intOf]; omega⟩
                  by_cases e : i = m + 1
                  · subst e
                    refine ⟨by rw [← V.out]; exact V12.out.1, by rw [← V.out]; exact V12.out.2, NN.out, fun _ => ?_⟩
                    rw [← V.out, show m + 1 - 1 = m by omega, ← U.out]
                    omega
                  · exact NO.out i (by omega)
          · have RG := Lib.hid (show RightL lb o from ⟨by omega, fun i hi => NO.out i (by omega)⟩)
            clear BAD
            go_wp2_with fail
            refine ⟨⟨2, 2, _, rfl, rfl, rfl, by omega, fun j hj => by
            rcases Nat.lt_succ_iff_lt_or_eq.1 hj with q | q
            · exact DN.out j q
            · subst q; exact RG.out, B5.out⟩, by simp [intOf]⟩
    · obtain rfl : z = 2 := by omega
      clear hz hk
      have BAD := Lib.hid (fun (q : ¬ RightL lc o) => not_of HB.out (fun r => q r.2.2.2))
      have hc0 := (KX.out _ BW.out).cell 0
      have hck := (KX.out _ BW.out).cell 3
      have NL := Lib.hid (fun ws (h : Below w1.heap.size w1 ws) => (LS.out.keep h).c)
      have ll := LS.out.lc
      have ix := idx3_2 (.pointer (some ⟨w.heap.size, 1, none⟩)) (.pointer (some ⟨w.heap.size, 2, none⟩)) (.pointer (some ⟨w.heap.size, 3, none⟩))
      by_cases q1 : 16 < lc.length
      · have d1 : decide ((16 : Int) < (lc.length : Int)) = true := decide_eq_true (by omega)
        obtain rfl := BAD.out (fun r => by have := r.1; omega)
        clear BAD HB
        go_wp2_with fail
        go_quiet (fail)
        go_wp2_with fail
        go_ret
        exact ⟨rfl, up H1.out (below_drewN BW.out _) H1.out.size⟩
      have d1 : decide ((16 : Int) < (lc.length : Int)) = false := by simp; omega
      have CT := Lib.hid (fun ws h => contains_any C cc lc o ws (NL.out ws h) ll)
      cases hon : on lc o with
      | true =>
        rw [hon] at CT
        obtain rfl := BAD.out (fun r => by
          obtain ⟨i, hi, e⟩ := on_is hon
          exact (r.2 i hi).2.2.1 e)
        clear BAD HB hon
        go_wp2_with fail
        go_quiet (first | (go_at_call 25; exact Calls.quiet_of_same (CT.out _ (below_drewN BW.out _))))
        go_wp2_with fail
        go_ret
        exact ⟨rfl, up H1.out (below_drewN BW.out _) H1.out.size⟩
      | false =>
        rw [hon] at CT
        have NON := Lib.hid (on_not hon)
        clear hon
        go_wp2_with fail
        go_quiet (first | (go_at_call 25; exact Calls.quiet_of_same (CT.out _ (below_drewN BW.out _))))
        clear CT
        have BX4 := Lib.hid (below_drewN BW.out nq)
        have hck4 := (KX.out _ BX4.out).cell 3
        clear hc0 hck
        go_wp2_with fail
        clear hck4
        go_loopw [32] (fun j wr => ∃ (i : Nat) (W : World), W = wr ∧ j = .int .i64 i ∧ i ≤ lc.length ∧ (∀ m, m < i → GoodAt lc o m) ∧ Below w1.heap.size w1 wr) (fun j _ => lc.length - (intOf j).toNat)
        case atStart => exact ⟨0, _, rfl, rfl, by omega, fun m h => by omega, BX4.out⟩
        case round =>
          obtain ⟨k, w5, rfl, rfl, hk, hno, hbw⟩ := hrel
          have B5 := Lib.hid hbw
          have NO := Lib.hid hno
          clear hbw hno
          by_cases hkl : k < lc.length
          · have hck := (KX.out _ B5.out).cell 3
            have bad : ¬ GoodAt lc o k → b = false := fun q => BAD.out (fun r => q (r.2 k hkl))
            have BAD2 := Lib.hid bad
            clear bad
            obtain ⟨g, off, e1, hc⟩ := nat (NL.out _ B5.out) hkl
            obtain ⟨v, hv⟩ : ∃ v, v = lc.getD k 0 := ⟨_, rfl⟩
            rw [← hv] at hc
            have V := Lib.hid hv
            have NN := Lib.hid (NON.out k hkl)
            clear hv
            obtain ⟨bp, hbp⟩ := ex_bool (1 ≤ v ∧ v ≤ 256)
            have PE := Lib.hid (fun ws => person_any v bp hbp ws)
            have BP := Lib.hid hbp
            clear hbp
            cases bp with
            | false =>
              obtain rfl := BAD2.out (fun r => by have := BP.out.2 ⟨by have := r.1; rwa [← V.out] at this, by have := r.2.1; rwa [← V.out] at this⟩; simp at this)
              clear BAD BAD2 HB
              subst e1
              go_wp2_with fail
              refine (PE.out _).mono ?_
              rintro e w6 ⟨rfl, e6⟩
              subst w6
              go_wp2_with fail
              go_ret
              exact ⟨rfl, up H1.out (B5.out) H1.out.size⟩
            | true =>
              have hv12 := BP.out.1 (by simp)
              have V12 := Lib.hid hv12
              clear hv12
              cases k with
              | zero =>
                rw [Nat.add_zero] at hc
                subst e1
                go_wp2_with fail
                refine (PE.out _).mono ?_
                rintro e w6 ⟨rfl, e6⟩
                subst w6
                go_wp2_with fail
                refine ⟨⟨1, _, rfl, by go_num, by omega, fun m hm => ?_, B5.out⟩, by simp [intOf]; omega⟩
                obtain rfl : m = 0 := by omega
                exact ⟨by rw [← V.out]; exact V12.out.1, by rw [← V.out]; exact V12.out.2, NN.out, by omega⟩
              | succ m =>
                obtain ⟨g2, off2, e2, hc2⟩ := nat (NL.out _ B5.out) (show m < lc.length by omega)
                rw [e1] at e2
                injection e2 with e2
                injection e2 with e3 e4
                subst e3
                subst e4
                obtain ⟨u, hu⟩ : ∃ u, u = lc.getD m 0 := ⟨_, rfl⟩
                rw [← hu] at hc2
                have U := Lib.hid hu
                have hw : IntKind.i64.wrap (((m + 1 : Nat) : Int) - 1) = (m : Int) := by rw [show ((m + 1 : Nat) : Int) - 1 = m by omega]; exact IntWalk.i64_in _ (by omega)
                clear hu
                by_cases q5 : v ≤ u
                · have d5 : decide (v ≤ u) = true := by simpa using q5
                  obtain rfl := BAD2.out (fun r => by
                    have := r.2.2.2 (by omega)
                    rw [← V.out, show m + 1 - 1 = m by omega, ← U.out] at this
                    omega)
                  clear BAD BAD2 HB
                  subst e1
                  go_wp2_with fail
                  refine (PE.out _).mono ?_
                  rintro e w6 ⟨rfl, e6⟩
                  subst w6
                  go_wp2_with fail
                  go_ret
                  exact ⟨rfl, up H1.out (B5.out) H1.out.size⟩
                · have d5 : decide (v ≤ u) = false := by simpa using q5
                  clear BAD2
                  subst e1
                  go_wp2_with fail
                  refine (PE.out _).mono ?_
                  rintro e w6 ⟨rfl, e6⟩
                  subst w6
                  go_wp2_with fail
                  refine ⟨⟨m + 1 + 1, _, rfl, by go_num, by omega, fun i hi => ?_, B5.out⟩, by simp [intOf]; omega⟩
                  by_cases e : i = m + 1
                  · subst e
                    refine ⟨by rw [← V.out]; exact V12.out.1, by rw [← V.out]; exact V12.out.2, NN.out, fun _ => ?_⟩
                    rw [← V.out, show m + 1 - 1 = m by omega, ← U.out]
                    omega
                  · exact NO.out i (by omega)
          · have RG := Lib.hid (show RightL lc o from ⟨by omega, fun i hi => NO.out i (by omega)⟩)
            clear BAD
            go_wp2_with fail
            refine ⟨⟨3, 3, _, rfl, rfl, rfl, by omega, fun j hj => by
            rcases Nat.lt_succ_iff_lt_or_eq.1 hj with q | q
            · exact DN.out j q
            · subst q; exact RG.out, B5.out⟩, by simp [intOf]⟩
    · obtain rfl : z = 3 := by omega
      clear hz hk
      obtain rfl := HB.out.2 ⟨BO.out.1 (by simp), DN.out 0 (by omega), DN.out 1 (by omega), DN.out 2 (by omega)⟩
      clear HB
      go_wp2_with fail
      go_ret
      exact ⟨rfl, up H1.out BW.out H1.out.size⟩
end Go.Proofs.YtemkhblogmdleaaDoor.ac
