/-
  StallTills: what is sold comes into the tills, and out of them by being collected or closed, and by nothing else.
-/
import Derived.Test.YthnjacfpnbhfpaaStJ
import Derived.Test.YthnjacfpnbhfpaaStK
import Derived.Test.YthnjacfpnbhfpaaStructs
import Derived.Test.YthnjacfpnbhfpaaBase2
namespace Go.Proofs.Ythnjacfpnbhfpaa.stallTills
open Go.ChangeShapes Go.WideShapes Go.ChangeAt Go.RowKit
open st mk rk
open base (ret_bool ret_int made up Blk Only IntRows)
set_option linter.unusedVariables false
set_option linter.unusedSimpArgs false

set_option maxRecDepth 100000 in
set_option maxHeartbeats 2000000 in
theorem walk_no (w : World) (A : Option Addr) (m c : Nat) (hm : m ≤ 9223372036854775807) (h : 80 < m) :
    Calls Try.prog 4 #[.slice A m c] w fun e w' => e = .returned (.bool true) ∧ Below w.heap.size w w' := by
  have N := Lib.hid (new_ex w)
  have AW := Lib.hid (fun ws => awake_any ws)
  go_enter Try.func4, Try.ntmps4
  go_wp2_with fail
  refine N.out.mono ?_
  rintro e w1 ⟨g, bs, bw, rfl, -, hb1⟩
  have B1 := Lib.hid hb1
  clear hb1
  go_wp2_with fail
  refine (AW.out _).mono ?_
  rintro e w2 ⟨rfl, hba⟩
  have BA := Lib.hid (up B1.out hba B1.out.size)
  clear hba
  go_wp2_with fail
  go_ret
  exact ⟨rfl, BA.out⟩
theorem wf_nth {m : Nat} {F : Nat → Nat → Int} (hw : ∀ i, i < m → ∀ j, j < 4 → -9223372036854775808 ≤ F i j ∧ F i j ≤ 9223372036854775807) {i : Nat} (hi : i < m) {j : Nat} (hj : j < 4) : (Lit.int .i64 (F i j)).wf = true := mk.wf_of (hw i hi j hj).1 (hw i hi j hj).2
set_option maxRecDepth 100000 in
set_option maxHeartbeats 8000000 in
theorem walk_yes (w : World) (A : Option Addr) (m c : Nat) (F : Nat → Nat → Int) (h1 : IntRows w A m 4 F) (hm : m ≤ 80) (hw : ∀ i, i < m → ∀ j, j < 4 → -9223372036854775808 ≤ F i j ∧ F i j ≤ 9223372036854775807) :
    Calls Try.prog 4 #[.slice A m c] w fun e w' => e = .returned (.bool true) ∧ Below w.heap.size w w' := by
  have N := Lib.hid (new_ex w)
  have AW := Lib.hid (fun ws => awake_any ws)
  have NN := Lib.hid h1
  have HW := Lib.hid hw
  clear h1 hw
  go_enter Try.func4, Try.ntmps4
  go_wp2_with fail
  refine N.out.mono ?_
  rintro e w1 ⟨g, bs, bw, rfl, hr1, hb1⟩
  have R1 := Lib.hid hr1
  have B1 := Lib.hid hb1
  clear hr1 hb1 N
  go_wp2_with fail
  go_loopw [4, 5, 30] (fun vi vo i wr => ∃ (k : Nat) (W : World) (s : S3) (zi zo : Int), W = wr ∧ k ≤ m ∧ i = .int .i64 k ∧ vi = .int .i64 zi ∧ vo = .int .i64 zo ∧ 0 ≤ zi ∧ zi ≤ 1099511627776 * k ∧ 0 ≤ zo ∧ zo ≤ 1099511627776 * k ∧ SX wr w.heap.size g bs bw s (zi - zo) k ∧ Below w.heap.size w wr) (fun _ _ i _ => m - (intOf i).toNat)
  case atStart => exact ⟨0, _, S0, 0, 0, rfl, by omega, rfl, rfl, rfl, by omega, by omega, by omega, by omega, R1.out, B1.out⟩
  case round =>
  obtain ⟨k, w2, s, zi, zo, rfl, hk, rfl, rfl, rfl, i0, i1, o0, o1, hx, hb⟩ := hrel
  have X2 := Lib.hid hx
  have B2 := Lib.hid hb
  clear hx
  by_cases hkm : k < m
  · obtain ⟨b, off, rfl, _, hcell⟩ := (base.IntRows.keep NN.out hb) (by omega)
    have e0 := hcell k hkm 0 (by omega)
    have e1 := hcell k hkm 1 (by omega)
    have e2 := hcell k hkm 2 (by omega)
    have e3 := hcell k hkm 3 (by omega)
    rw [Nat.add_zero] at e0
    have W1 := Lib.hid (wf_nth HW.out hkm (show 1 < 4 by omega))
    have W2 := Lib.hid (wf_nth HW.out hkm (show 2 < 4 by omega))
    clear hcell hb
    generalize F k 0 = k0 at *
    generalize F k 1 = k1 at *
    generalize F k 2 = k2 at *
    generalize F k 3 = k3 at *
    have hm3 := made w2 (.cells #[.int .i64 k0, .int .i64 k1, .int .i64 k2, .int .i64 k3] 31)
    have X3 := Lib.hid (X2.out.below hm3)
    have B3 := Lib.hid (up B2.out hm3 B2.out.size)
    have Y3 := Lib.hid (Blk.new w2 31 #[.int .i64 k0, .int .i64 k1, .int .i64 k2, .int .i64 k3])
    clear hm3 X2
    go_upto_region 8 with fail
    generalize w2.alloc (.cells #[.int .i64 k0, .int .i64 k1, .int .i64 k2, .int .i64 k3] 31) = w3 at *
    clear e0 e1 e2 e3
    have x0 := Y3.out.cell 0
    have x1 := Y3.out.cell 1
    have x2 := Y3.out.cell 2
    have x3 := Y3.out.cell 3
    have hk80 : (k : Int) < 80 := by omega
    have wz : IntKind.i64.wrap (zi - zo) = zi - zo := IntWalk.i64_in _ (by omega)
    by_cases q1 : k0 = 1
    · subst q1
      have CA := Lib.hid (open_any k1 X3.out (by omega) W1.out B3.out.size)
      go_wp2_with fail
      refine CA.out.mono ?_
      rintro e w4 ⟨rfl, h4, c4⟩
      have HX := Lib.hid h4
      have BX := Lib.hid (B3.out.trans (c4.to B3.out.size))
      clear h4 c4 CA x0 x1 x2 x3
      have TO := Lib.hid (totalX HX.out)
      go_wp2_with fail
      refine TO.out.mono ?_
      rintro e w9 ⟨rfl, rfl⟩
      go_wp2_with fail
      exact ⟨⟨k + 1, _, _, zi, zo, rfl, by omega, by go_num, by go_num, by go_num, by omega, by omega, by omega, by omega, HX.out, BX.out⟩, by simp [intOf]; omega⟩
    have p1 : (k0 == 1) = false := by simpa using q1
    by_cases q2 : k0 = 2
    · subst q2
      have CA := Lib.hid (put_any k1 k2 k3 X3.out (by omega) W1.out W2.out)
      go_wp2_with fail
      refine CA.out.mono ?_
      rintro e w4 ⟨rfl, h4, c4⟩
      have HX := Lib.hid h4
      have BX := Lib.hid (B3.out.trans (c4.to B3.out.size))
      clear h4 c4 CA x0 x1 x2 x3
      have TO := Lib.hid (totalX HX.out)
      go_wp2_with fail
      refine TO.out.mono ?_
      rintro e w9 ⟨rfl, rfl⟩
      go_wp2_with fail
      exact ⟨⟨k + 1, _, _, zi, zo, rfl, by omega, by go_num, by go_num, by go_num, by omega, by omega, by omega, by omega, HX.out, BX.out⟩, by simp [intOf]; omega⟩
    have p2 : (k0 == 2) = false := by simpa using q2
    by_cases q3 : k0 = 3
    · subst q3
      have CA := Lib.hid (take_any k2 X3.out (by omega) W2.out)
      go_wp2_with fail
      refine CA.out.mono ?_
      rintro e w4 ⟨rfl, h4, c4⟩
      have HX := Lib.hid (h4.mono (Nat.le_succ k))
      have BX := Lib.hid (B3.out.trans (c4.to B3.out.size))
      clear h4 c4 CA x0 x1 x2 x3
      have TO := Lib.hid (totalX HX.out)
      go_wp2_with fail
      refine TO.out.mono ?_
      rintro e w9 ⟨rfl, rfl⟩
      go_wp2_with fail
      exact ⟨⟨k + 1, _, _, zi, zo, rfl, by omega, by go_num, by go_num, by go_num, by omega, by omega, by omega, by omega, HX.out, BX.out⟩, by simp [intOf]; omega⟩
    have p3 : (k0 == 3) = false := by simpa using q3
    by_cases q4 : k0 = 4
    · subst q4
      cases hG : s.G k2 with
      | none =>
        have CA := Lib.hid (sell_none k2 X3.out W2.out hG)
        clear hG
        go_wp2_with fail
        refine CA.out.mono ?_
        rintro e w4 ⟨rfl, h4, c4⟩
        have HX := Lib.hid (h4.mono (Nat.le_succ k))
        have BX := Lib.hid (B3.out.trans (c4.to B3.out.size))
        clear h4 c4 CA x0 x1 x2 x3
        have TO := Lib.hid (totalX HX.out)
        go_wp2_with fail
        refine TO.out.mono ?_
        rintro e w9 ⟨rfl, rfl⟩
        go_wp2_with fail
        exact ⟨⟨k + 1, _, _, zi, zo, rfl, by omega, by go_num, by go_num, by go_num, by omega, by omega, by omega, by omega, HX.out, BX.out⟩, by simp [intOf]; omega⟩
      | some d =>
        obtain ⟨n, p⟩ := d
        obtain ⟨gT, -, -, z1, z2⟩ := X3.out.gd.good k2 n p hG
        obtain ⟨u, hT⟩ := Option.isSome_iff_exists.1 gT
        by_cases ho : 1099511627776 < u + p
        · have CA := Lib.hid (sell_over k2 n p u X3.out hG hT ho)
          clear hG hT gT ho
          go_wp2_with fail
          refine CA.out.mono ?_
          rintro e w4 ⟨rfl, h4, c4⟩
          have HX := Lib.hid (h4.mono (Nat.le_succ k))
          have BX := Lib.hid (B3.out.trans (c4.to B3.out.size))
          clear h4 c4 CA x0 x1 x2 x3
          have TO := Lib.hid (totalX HX.out)
          go_wp2_with fail
          refine TO.out.mono ?_
          rintro e w9 ⟨rfl, rfl⟩
          go_wp2_with fail
          exact ⟨⟨k + 1, _, _, zi, zo, rfl, by omega, by go_num, by go_num, by go_num, by omega, by omega, by omega, by omega, HX.out, BX.out⟩, by simp [intOf]; omega⟩
        · have CA := Lib.hid (sell_some k2 n p u X3.out (by omega) hG hT (by omega) (by omega))
          clear hG hT gT ho
          go_wp2_with fail
          refine CA.out.mono ?_
          rintro e w4 ⟨rfl, h4, c4⟩
          have HX := Lib.hid (show SX w4 w.heap.size g bs bw _ (zi + p - zo) (k + 1) by rw [show zi + p - zo = zi - zo + p by omega]; exact h4.mono (Nat.le_succ k))
          have BX := Lib.hid (B3.out.trans (c4.to B3.out.size))
          clear h4 c4 CA x0 x1 x2 x3 wz
          have wz : IntKind.i64.wrap (zi + p - zo) = zi + p - zo := IntWalk.i64_in _ (by omega)
          have wy : IntKind.i64.wrap (zi + p) = zi + p := IntWalk.i64_in _ (by omega)
          have TO := Lib.hid (totalX HX.out)
          go_wp2_with fail
          refine TO.out.mono ?_
          rintro e w9 ⟨rfl, rfl⟩
          go_wp2_with fail
          exact ⟨⟨k + 1, _, _, (zi + p), zo, rfl, by omega, by go_num, by go_num, by go_num, by omega, by omega, by omega, by omega, HX.out, BX.out⟩, by simp [intOf]; omega⟩
    have p4 : (k0 == 4) = false := by simpa using q4
    by_cases q5 : k0 = 5
    · subst q5
      cases hT : s.T k1 with
      | none =>
        have CA := Lib.hid (collect_none k1 X3.out W1.out hT)
        clear hT
        go_wp2_with fail
        refine CA.out.mono ?_
        rintro e w4 ⟨rfl, rfl⟩
        have HX := Lib.hid (X3.out.mono (Nat.le_succ k))
        have BX := B3
        clear CA x0 x1 x2 x3
        have TO := Lib.hid (totalX HX.out)
        go_wp2_with fail
        refine TO.out.mono ?_
        rintro e w9 ⟨rfl, rfl⟩
        go_wp2_with fail
        exact ⟨⟨k + 1, _, _, zi, zo, rfl, by omega, by go_num, by go_num, by go_num, by omega, by omega, by omega, by omega, HX.out, BX.out⟩, by simp [intOf]; omega⟩
      | some u =>
        obtain ⟨-, -, z1, z2⟩ := X3.out.gd.till k1 u hT
        have CA := Lib.hid (collect_some k1 u X3.out hT (by omega))
        clear hT
        go_wp2_with fail
        refine CA.out.mono ?_
        rintro e w4 ⟨rfl, h4, c4⟩
        have HX := Lib.hid (show SX w4 w.heap.size g bs bw _ (zi - (zo + u)) (k + 1) by rw [show zi - (zo + u) = zi - zo - u by omega]; exact h4.mono (Nat.le_succ k))
        have BX := Lib.hid (B3.out.trans (c4.to B3.out.size))
        clear h4 c4 CA x0 x1 x2 x3 wz
        have wz : IntKind.i64.wrap (zi - (zo + u)) = zi - (zo + u) := IntWalk.i64_in _ (by omega)
        have wy : IntKind.i64.wrap (zo + u) = zo + u := IntWalk.i64_in _ (by omega)
        have TO := Lib.hid (totalX HX.out)
        go_wp2_with fail
        refine TO.out.mono ?_
        rintro e w9 ⟨rfl, rfl⟩
        go_wp2_with fail
        exact ⟨⟨k + 1, _, _, zi, (zo + u), rfl, by omega, by go_num, by go_num, by go_num, by omega, by omega, by omega, by omega, HX.out, BX.out⟩, by simp [intOf]; omega⟩
    have p5 : (k0 == 5) = false := by simpa using q5
    by_cases q6 : k0 = 6
    · subst q6
      cases hT : s.T k1 with
      | none =>
        have CA := Lib.hid (close_none k1 X3.out W1.out hT)
        clear hT
        go_wp2_with fail
        refine CA.out.mono ?_
        rintro e w4 ⟨rfl, h4, c4, -⟩
        have hm5 := made w4 (.cells #[.int .i64 0, .int .i64 0, .slice none 0 0] 47)
        have HX := Lib.hid ((h4.below hm5).mono (Nat.le_succ k))
        have BX := Lib.hid (up (B3.out.trans (c4.to B3.out.size)) hm5 (B3.out.trans (c4.to B3.out.size)).size)
        clear h4 c4 CA x0 x1 x2 x3 hm5
        go_upto_region 25 with fail
        generalize w4.alloc (.cells #[.int .i64 0, .int .i64 0, .slice none 0 0] 47) = w5 at *
        have TO := Lib.hid (totalX HX.out)
        go_wp2_with fail
        refine TO.out.mono ?_
        rintro e w9 ⟨rfl, rfl⟩
        go_wp2_with fail
        exact ⟨⟨k + 1, _, _, zi, zo, rfl, by omega, by go_num, by go_num, by go_num, by omega, by omega, by omega, by omega, HX.out, BX.out⟩, by simp [intOf]; omega⟩
      | some u =>
        obtain ⟨-, -, z1, z2⟩ := X3.out.gd.till k1 u hT
        have CA := Lib.hid (close_some k1 u X3.out (by omega) hT (by omega))
        clear hT
        go_wp2_with fail
        refine CA.out.mono ?_
        rintro e w4 ⟨v4, ts, rfl, -, -, ho4, h4, c4⟩
        obtain ⟨A4, cp4, rfl, -⟩ := ho4.open_
        have hm5 := made w4 (.cells #[.int .i64 k1, .int .i64 u, .slice A4 (gl s ts).length cp4] 47)
        have HX := Lib.hid (show SX (w4.alloc (.cells #[.int .i64 k1, .int .i64 u, .slice A4 (gl s ts).length cp4] 47)) w.heap.size g bs bw _ (zi - (zo + u)) (k + 1) by rw [show zi - (zo + u) = zi - zo - u by omega]; exact (h4.below hm5).mono (Nat.le_succ k))
        have BX := Lib.hid (up (B3.out.trans (c4.to B3.out.size)) hm5 (B3.out.trans (c4.to B3.out.size)).size)
        have BR := Lib.hid (Blk.new w4 47 #[.int .i64 k1, .int .i64 u, .slice A4 (gl s ts).length cp4])
        clear h4 c4 CA x0 x1 x2 x3 wz hm5 ho4
        have wz : IntKind.i64.wrap (zi - (zo + u)) = zi - (zo + u) := IntWalk.i64_in _ (by omega)
        have wy : IntKind.i64.wrap (zo + u) = zo + u := IntWalk.i64_in _ (by omega)
        go_upto_region 25 with fail
        generalize w4.alloc (.cells #[.int .i64 k1, .int .i64 u, .slice A4 (gl s ts).length cp4] 47) = w5 at *
        have r1 := BR.out.cell 1
        have TO := Lib.hid (totalX HX.out)
        go_wp2_with fail
        refine TO.out.mono ?_
        rintro e w9 ⟨rfl, rfl⟩
        go_wp2_with fail
        exact ⟨⟨k + 1, _, _, zi, (zo + u), rfl, by omega, by go_num, by go_num, by go_num, by omega, by omega, by omega, by omega, HX.out, BX.out⟩, by simp [intOf]; omega⟩
    have p6 : (k0 == 6) = false := by simpa using q6
    have HX := Lib.hid (X3.out.mono (Nat.le_succ k))
    have BX := B3
    clear q1 q2 q3 q4 q5 q6
    have TO := Lib.hid (totalX HX.out)
    go_wp2_with fail
    refine TO.out.mono ?_
    rintro e w9 ⟨rfl, rfl⟩
    go_wp2_with fail
    exact ⟨⟨k + 1, _, _, zi, zo, rfl, by omega, by go_num, by go_num, by go_num, by omega, by omega, by omega, by omega, HX.out, BX.out⟩, by simp [intOf]; omega⟩
  · obtain rfl : k = m := by omega
    clear hb
    go_wp2_with fail
    refine (AW.out _).mono ?_
    rintro e w8 ⟨rfl, hba⟩
    have BA := Lib.hid (up B2.out hba B2.out.size)
    clear hba
    go_wp2_with fail
    go_ret
    exact ⟨rfl, BA.out⟩

theorem walk (w : World) (A : Option Addr) (m c : Nat) (F : Nat → Nat → Int) (h1 : IntRows w A m 4 F) (hc : m ≤ c) (hm : c ≤ maxLen) (hw : ∀ i, i < m → ∀ j, j < 4 → -9223372036854775808 ≤ F i j ∧ F i j ≤ 9223372036854775807) :
    Calls Try.prog 4 #[.slice A m c] w fun e w' => e = .returned (.bool true) ∧ Below w.heap.size w w' := by
  unfold maxLen at hm
  by_cases q : 80 < m
  · exact walk_no w A m c (by omega) q
  · exact walk_yes w A m c F h1 (by omega) hw

set_option maxRecDepth 100000 in
theorem lifted (os : Os) (started : os.Started) (H : Type) (enc : TypeId × Value → H) :
    ReturnsInHanded {} Try.checked os 4 .any (Rows.stallTillsSpec.pre6 enc Try.prog Try.f4 Rows.stallTillsRow.domain false) (Rows.stallTillsSpec.post enc Try.prog Try.f4 false true false false) := by
  refine returnsInHanded_of_change (C := Try.checked) base.own started (by kernel_rfl) Try.func4
    (ChangeSpec.witness6 (enc := enc) (C := Try.checked) false ⟨#[], #[.slice none 0 0], []⟩ 8 (by kernel_rfl) (by kernel_rfl) (by kernel_rfl) (by kernel_rfl)) ?_
  intro W bs args ds gs before hval0 hW _ _
  have hval : ∀ (j : Nat) t v, Try.f4.params[j]? = some t → args[j]? = some v → Value.okWide Try.prog W .any bs t v := hval0
  have hW' : DataW.Whole enc Try.prog Try.f4.params.toList Rows.stallTillsSpec.vars false W args.toList ds gs before := hW
  obtain ⟨p, q, hA0, hV, rfl, _, _⟩ := hW
  have hA : DataW.TrodAll enc Try.prog W 0 (fun _ => true) true Try.f4.params.toList args.toList ds p := hA0
  rw [Try.params4] at hA hval
  obtain ⟨v0, vs0, d0, ds0, p0, q0, hargs, rfl, rfl, h0, r0⟩ := trodAll_cons hA
  obtain ⟨rfl, rfl, rfl⟩ := trodAll_nil r0
  obtain rfl : args = #[v0] := by cases args; simp_all
  obtain ⟨rfl, rfl⟩ := trodVars_none hV
  obtain ⟨A0, k0, c0, F0, rfl, b0, m0, n0, w0⟩ := base.open_introws 4 Try.underlying22 Try.underlying31 (by kernel_rfl) (by kernel_rfl) rfl (by omega) (by intro j f hj; rcases j with _ | _ | _ | _ | j <;> simp at hj <;> (subst hj; exact Try.underlying3)) (hval 0 22 v0 rfl rfl) h0
  clear hA0 hval0
  refine (walk W A0 k0 c0 F0 n0 b0 m0 w0).mono fun e W' ⟨he, hb⟩ => ?_
  subst he
  exact ⟨_, rfl, base.law_post base.laid (by kernel_rfl) rfl rfl Try.underlying4 hW' rfl rfl rfl hb⟩

theorem over : Rows.stallTillsRow.holds Try.pinned (OpenSpec.ofChange Rows.stallTillsSpec) :=
  OpenClaim.holds_of_wide 4 Try.f4 rfl rfl rfl rfl rfl rfl rfl ⟨rfl, rfl, rfl, rfl, rfl⟩ rfl rfl rfl rfl rfl (by kernel_rfl) Try.func4 (by kernel_rfl)
    (of_decide_eq_true (by kernel_rfl)) (by unfold Func.isWrapper; first | (rw [if_pos (by decide +kernel)]; kernel_rfl) | (rw [if_neg (by decide +kernel)]; exact ⟨rfl, rfl⟩))
    (fun os started H enc _ => lifted os started H enc)

theorem proved : Rows.StallTillsSaid := over
#print axioms proved
end Go.Proofs.Ythnjacfpnbhfpaa.stallTills
