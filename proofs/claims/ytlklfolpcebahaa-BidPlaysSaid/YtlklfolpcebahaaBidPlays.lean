/-
  BidPlays: auctions answer every sequence of calls as a list does; what is held is what the best bids are.
-/
import Derived.Test.YtlklfolpcebahaaAucY
import Derived.Test.YtlklfolpcebahaaStructs
import Derived.Test.YtlklfolpcebahaaBase2
namespace Go.Proofs.Ytlklfolpcebahaa.bidPlays
open Go.ChangeShapes Go.WideShapes Go.ChangeAt Go.RowKit
open bb rk
open base (ret_bool ret_int made up Blk Only Nums IntRows below_drewN)
set_option linter.unusedVariables false
set_option linter.unusedSimpArgs false

set_option maxRecDepth 100000 in
set_option maxHeartbeats 2000000 in
theorem walk_no (w : World) (A : Option Addr) (m c : Nat) (hm : m ≤ 9223372036854775807) (h : 100 < m) :
    Calls Try.prog 3 #[.slice A m c] w fun e w' => e = .returned (.bool true) ∧ Below w.heap.size w w' := by
  have N := Lib.hid (new_any w)
  have AW := Lib.hid (fun ws => bd.awake_any ws)
  go_enter Try.func3, Try.ntmps3
  go_wp2_with fail
  refine N.out.mono ?_
  rintro e w1 ⟨rfl, -, hb1⟩
  have B1 := Lib.hid hb1
  clear hb1
  go_wp2_with fail
  refine (AW.out _).mono ?_
  rintro e w2 ⟨rfl, hb2⟩
  have B2 := Lib.hid (up B1.out hb2 B1.out.size)
  clear hb2
  go_wp2_with fail
  go_ret
  exact ⟨rfl, B2.out⟩

set_option maxRecDepth 100000 in
set_option maxHeartbeats 8000000 in
theorem walk_yes (w : World) (A : Option Addr) (m c : Nat) (F : Nat → Nat → Int) (h1 : IntRows w A m 5 F) (hm : m ≤ 100) (hc : m ≤ c) (hcm : c ≤ 9223372036854775807) :
    Calls Try.prog 3 #[.slice A m c] w fun e w' => e = .returned (.bool true) ∧ Below w.heap.size w w' := by
  have N := Lib.hid (new_any w)
  have AW := Lib.hid (fun ws => bd.awake_any ws)
  have NN := Lib.hid h1
  clear h1
  go_enter Try.func3, Try.ntmps3
  go_wp2_with fail
  refine N.out.mono ?_
  rintro e w1 ⟨rfl, hd1, hb1⟩
  have hm2 := made w1 (.cells #[.slice none 0 0, .int .i64 1] 28)
  have D2 := Lib.hid (hd1.below hm2)
  have B2 := Lib.hid (up hb1 hm2 hb1.size)
  have BX2 := Lib.hid (Blk.new w1 28 #[.slice none 0 0, .int .i64 1])
  have G1 := Lib.hid hb1.size
  have G0 := Lib.hid (show w.heap.size < w1.heap.size from hd1.lt)
  clear hd1 hb1 hm2 N
  go_wp2_with fail
  generalize w1.alloc (.cells #[.slice none 0 0, .int .i64 1] 28) = w2 at *
  go_loopw [28] (fun i wr => ∃ (k : Nat) (W : World) (L : List D) (nx : Int) (Ax : Option Addr) (cx : Nat), W = wr ∧ k ≤ m ∧ i = .int .i64 k ∧ Blk wr w1.heap.size 28 #[.slice Ax L.length cx, .int .i64 nx] ∧ DAt wr w.heap.size w.heap.size L nx ∧ rk.Own E7 wr w.heap.size 52 (.slice Ax L.length cx) L ∧ Below w.heap.size w wr ∧ nx ≤ k + 1 ∧ Inv L nx) (fun i _ => m - (intOf i).toNat)
  case atStart => exact ⟨0, _, [], 1, none, 0, rfl, by omega, rfl, BX2.out, D2.out, rk.Own.nil _ _ _, B2.out, by omega, Inv.nil⟩
  case round =>
  obtain ⟨k, w3, L, nx, Ax, cx, rfl, hk, rfl, hbx, hd, ho, hb, hn1, hinv⟩ := hrel
  have BX3 := Lib.hid hbx
  have D3 := Lib.hid hd
  have O3 := Lib.hid ho
  have B3 := Lib.hid hb
  have IV := Lib.hid hinv
  have hn0 : 1 ≤ nx := hinv.1
  have hll : L.length ≤ 64 := hinv.2.2.2
  have x0 := hbx.cell 0
  have x1 := hbx.cell 1
  clear hinv
  by_cases hkm : k < m
  · obtain ⟨b, off, rfl, _, hcell⟩ := (base.IntRows.keep NN.out hb) (by omega)
    have e0 := hcell k hkm 0 (by omega)
    have e1 := hcell k hkm 1 (by omega)
    have e2 := hcell k hkm 2 (by omega)
    have e3 := hcell k hkm 3 (by omega)
    have e4 := hcell k hkm 4 (by omega)
    rw [Nat.add_zero] at e0
    clear hcell hbx hd ho hb
    generalize F k 0 = k0 at *
    generalize F k 1 = k1 at *
    generalize F k 2 = k2 at *
    generalize F k 3 = k3 at *
    generalize F k 4 = k4 at *
    have hm4 := made w3 (.cells #[.int .i64 k0, .int .i64 k1, .int .i64 k2, .int .i64 k3, .int .i64 k4] 30)
    have D4 := Lib.hid (D3.out.below hm4)
    have O4 := Lib.hid (O3.out.below hm4)
    have BO4 := Lib.hid (Blk.new w3 30 #[.int .i64 k0, .int .i64 k1, .int .i64 k2, .int .i64 k3, .int .i64 k4])
    have BX4 := Lib.hid (BX3.out.below hm4 BX3.out.lt)
    have B4 := Lib.hid (up B3.out hm4 B3.out.size)
    clear hm4 x0 x1 D3 O3 BX3 B3
    go_upto_region 8 with fail
    generalize w3.alloc (.cells #[.int .i64 k0, .int .i64 k1, .int .i64 k2, .int .i64 k3, .int .i64 k4] 30) = w4 at *
    clear e0 e1 e2 e3 e4
    have x0 := BX4.out.cell 0
    have x1 := BX4.out.cell 1
    have o0 := BO4.out.cell 0
    have o1 := BO4.out.cell 1
    have o2 := BO4.out.cell 2
    have o3 := BO4.out.cell 3
    have o4 := BO4.out.cell 4
    have SP := Lib.hid (step_any Ax cx L nx k0 k1 k2 k3 k4 w.heap.size w.heap.size w.heap.size w4 D4.out O4.out (by omega) ⟨by omega, by omega⟩ B4.out.size B4.out.size IV.out.2.2.1)
    have IV2 := Lib.hid (IV.out.step k0 k1 k2 k3 k4)
    have SZ := Lib.hid (step_next L nx k0 k1 k2 k3 k4)
    generalize stepS (L, nx) k0 k1 k2 k3 k4 = r at *
    obtain ⟨L2, n2⟩ := r
    dsimp only at SZ IV2
    go_wp2_with fail
    refine SP.out.mono ?_
    rintro e w8 ⟨v8, rfl, hd8, ho8, hb8, ht8⟩
    obtain ⟨A8, c8, rfl, -⟩ := ho8.open_
    have NE := Lib.hid (show w1.heap.size ≠ w.heap.size by have := G1.out; have := G0.out; omega)
    obtain ⟨csg, hcsg⟩ := D4.out.blk
    have BX8 := Lib.hid (ht8.blk BX4.out NE.out (by decide))
    have BO8 := Lib.hid (ht8.blk BO4.out (ty_ne BO4.out hcsg (by decide)) (by decide))
    clear hcsg
    have B8 := Lib.hid ((B4.out.mono (Nat.le_refl _)).trans hb8)
    have r0 := BX8.out.cell 0
    have r1 := BX8.out.cell 1
    have f0 := BX8.out.free 0
    have f1 := BX8.out.free 1
    have NO := Lib.hid (show w3.heap.size ≠ w1.heap.size from ty_ne BO8.out BX8.out (by decide))
    have BO9 := Lib.hid (((BO8.out.far (p := ⟨w1.heap.size, 0, none⟩) NO.out (.slice A8 L2.length c8)).far (p := ⟨w1.heap.size, 1, none⟩) NO.out (.int .i64 n2)))
    have K8 := Lib.hid (blk2 BX8.out (.slice A8 L2.length c8) (.int .i64 n2))
    have O8 := Lib.hid (own2 ho8 BX8.out (by decide) (.slice A8 L2.length c8) (.int .i64 n2))
    have D8 := Lib.hid (hd8.set2 BX8.out (by decide) (by decide) (.slice A8 L2.length c8) (.int .i64 n2))
    have B9 := Lib.hid (below2 B8.out (r := w1.heap.size) G1.out (.slice A8 L2.length c8) (.int .i64 n2))
    clear hd8 ho8 hb8 ht8 x0 x1 o0 o1 o2 o3 o4 SP BO8
    go_upto_region 10 with fail
    clear r0 r1 f0 f1 BX8 B8
    generalize (w8.setCell ⟨w1.heap.size, 0, none⟩ (.slice A8 L2.length c8)).setCell ⟨w1.heap.size, 1, none⟩ (.int .i64 n2) = w9 at *
    have x0 := K8.out.cell 0
    have x1 := K8.out.cell 1
    have hl2 : L2.length ≤ 64 := IV2.out.2.2.2
    have LY := Lib.hid (fun ws (h : Below w9.heap.size w9 ws) => (show Lay E7 ws A8 L2 from by
      obtain ⟨A', c', e, h2, _⟩ := (rk.Own.below O8.out h).open_
      injection e with q1 q2 q3
      subst q1
      exact h2))
    have SA := Lib.hid (same_any A8 c8 L2 n2 w.heap.size w.heap.size w9 D8.out (LY.out _ (Below.refl _ _)) IV2.out)
    have RF := Lib.hid (fun ws (h : Below w9.heap.size w9 ws) => rfind_any A8 c8 L2 n2 k1 ws (LY.out _ h) (by omega))
    have RO := Lib.hid (fun ws (h : Below w9.heap.size w9 ws) => rof_any A8 c8 L2 n2 k1 ws (LY.out _ h) (by omega))
    have Q1 := Lib.hid (ix_ge (fi (isId k1) L2))
    have Q2 := Lib.hid (ix_ge (fi (isDeed k1) L2))
    obtain ⟨y0, y1, y2, y3, y4, y5, y6, er, her, GE⟩ := get_l w.heap.size w.heap.size L2 n2 k1 (show L2.length ≤ 100000 by omega)
    obtain ⟨z0, z1, z2, z3, z4, z5, z6, OF⟩ := of_l w.heap.size w.heap.size L2 n2 k1 (show L2.length ≤ 100000 by omega)
    have HER := Lib.hid her
    have GE := Lib.hid GE
    have OF := Lib.hid OF
    clear her
    generalize (fi (isId k1) L2).isSome = b1 at *
    generalize (fi (isDeed k1) L2).isSome = b2 at *
    generalize ix (fi (isId k1) L2) = u1 at *
    generalize ix (fi (isDeed k1) L2) = u2 at *
    go_wp2_with fail
    refine SA.out.mono ?_
    rintro e w10 ⟨rfl, hb10⟩
    have C10 := Lib.hid hb10
    clear hb10 SA x0 x1
    have o1 := (BO9.out.below C10.out BO9.out.lt).cell 1
    go_wp2_with fail
    refine (GE.out _ (D8.out.below C10.out)).mono ?_
    rintro e w11 ⟨rfl, hb11⟩
    have C11 := Lib.hid (up C10.out hb11 C10.out.size)
    clear hb11 o1
    have hm := made w11 (.cells #[.int .i64 y0, .int .i64 y1, .int .i64 y2, .int .i64 y3, .int .i64 y4, .int .i64 y5, .int .i64 y6] 35)
    have C12 := Lib.hid (up C11.out hm C11.out.size)
    clear hm
    go_upto_region 13 with fail
    generalize w11.alloc (.cells #[.int .i64 y0, .int .i64 y1, .int .i64 y2, .int .i64 y3, .int .i64 y4, .int .i64 y5, .int .i64 y6] 35) = w12 at *
    have o1 := (BO9.out.below C12.out BO9.out.lt).cell 1
    go_wp2_with fail
    refine (OF.out _ (D8.out.below C12.out)).mono ?_
    rintro e w13 ⟨rfl, hb13⟩
    have C13 := Lib.hid (up C12.out hb13 C12.out.size)
    clear hb13 o1
    have hm := made w13 (.cells #[.int .i64 z0, .int .i64 z1, .int .i64 z2, .int .i64 z3, .int .i64 z4, .int .i64 z5, .int .i64 z6] 35)
    have C14 := Lib.hid (up C13.out hm C13.out.size)
    clear hm
    go_upto_region 14 with fail
    generalize w13.alloc (.cells #[.int .i64 z0, .int .i64 z1, .int .i64 z2, .int .i64 z3, .int .i64 z4, .int .i64 z5, .int .i64 z6] 35) = w14 at *
    have o1 := (BO9.out.below C14.out BO9.out.lt).cell 1
    have x0 := (K8.out.below C14.out K8.out.lt).cell 0
    have x1 := (K8.out.below C14.out K8.out.lt).cell 1
    have her := HER.out
    have hq1 := Q1.out
    go_wp2_with fail
    refine (RF.out _ C14.out).mono ?_
    rintro e w15 ⟨rfl, hb15⟩
    have C15 := Lib.hid (up C14.out hb15 C14.out.size)
    clear hb15 o1 x0 x1
    have o1 := (BO9.out.below C15.out BO9.out.lt).cell 1
    have x0 := (K8.out.below C15.out K8.out.lt).cell 0
    have x1 := (K8.out.below C15.out K8.out.lt).cell 1
    have hq2 := Q2.out
    go_wp2_with fail
    refine (RO.out _ C15.out).mono ?_
    rintro e w16 ⟨rfl, hb16⟩
    have C16 := Lib.hid (up C15.out hb16 C15.out.size)
    have K9 := Lib.hid (K8.out.below C16.out K8.out.lt)
    have O9 := Lib.hid (rk.Own.below O8.out C16.out)
    have D9 := Lib.hid (D8.out.below C16.out)
    have B10 := Lib.hid (up B9.out C16.out B9.out.size)
    have hsz := SZ.out
    clear hb16 o1 x0 x1
    go_wp2_with fail
    refine ⟨⟨k + 1, _, L2, n2, A8, c8, rfl, by omega, by go_num, K9.out, D9.out, O9.out, B10.out, by omega, IV2.out⟩, by simp [intOf]; omega⟩
  · obtain rfl : k = m := by omega
    clear hbx hd ho hb
    have RR := Lib.hid (rright_any Ax cx L nx w3 (by
      obtain ⟨A', c', e, h2, _⟩ := O3.out.open_
      injection e with q1 q2 q3
      subst q1
      exact h2) IV.out (by omega))
    go_wp2_with fail
    refine RR.out.mono ?_
    rintro e w4 ⟨rfl, hb4⟩
    have B4 := Lib.hid (up B3.out hb4 B3.out.size)
    clear hb4
    go_wp2_with fail
    refine (AW.out _).mono ?_
    rintro e w5 ⟨rfl, hb5⟩
    have B5 := Lib.hid (up B4.out hb5 B4.out.size)
    clear hb5
    go_wp2_with fail
    go_ret
    exact ⟨rfl, B5.out⟩

theorem walk (w : World) (A : Option Addr) (m c : Nat) (F : Nat → Nat → Int) (h1 : IntRows w A m 5 F) (hc : m ≤ c) (hm : c ≤ maxLen) (hw : ∀ i, i < m → ∀ j, j < 5 → -9223372036854775808 ≤ F i j ∧ F i j ≤ 9223372036854775807) :
    Calls Try.prog 3 #[.slice A m c] w fun e w' => e = .returned (.bool true) ∧ Below w.heap.size w w' := by
  unfold maxLen at hm
  by_cases q : 100 < m
  · exact walk_no w A m c (by omega) q
  · exact walk_yes w A m c F h1 (by omega) hc (by omega)

set_option maxRecDepth 100000 in
theorem lifted (os : Os) (started : os.Started) (H : Type) (enc : TypeId × Value → H) :
    ReturnsInHanded {} Try.checked os 3 .any (Rows.bidPlaysSpec.pre6 enc Try.prog Try.f3 Rows.bidPlaysRow.domain false) (Rows.bidPlaysSpec.post enc Try.prog Try.f3 false true false false) := by
  refine returnsInHanded_of_change (C := Try.checked) base.own started (by kernel_rfl) Try.func3
    (ChangeSpec.witness6 (enc := enc) (C := Try.checked) false ⟨#[], #[.slice none 0 0], []⟩ 8 (by kernel_rfl) (by kernel_rfl) (by kernel_rfl) (by kernel_rfl)) ?_
  intro W bs args ds gs before hval0 hW _ _
  have hval : ∀ (j : Nat) t v, Try.f3.params[j]? = some t → args[j]? = some v → Value.okWide Try.prog W .any bs t v := hval0
  have hW' : DataW.Whole enc Try.prog Try.f3.params.toList Rows.bidPlaysSpec.vars false W args.toList ds gs before := hW
  obtain ⟨p, q, hA0, hV, rfl, _, _⟩ := hW
  have hA : DataW.TrodAll enc Try.prog W 0 (fun _ => true) true Try.f3.params.toList args.toList ds p := hA0
  rw [Try.params3] at hA hval
  obtain ⟨v0, vs0, d0, ds0, p0, q0, hargs, rfl, rfl, h0, r0⟩ := trodAll_cons hA
  obtain ⟨rfl, rfl, rfl⟩ := trodAll_nil r0
  obtain rfl : args = #[v0] := by cases args; simp_all
  obtain ⟨rfl, rfl⟩ := trodVars_none hV
  obtain ⟨A0, k0, c0, F0, rfl, b0, m0, n0, w0⟩ := base.open_introws 5 Try.underlying22 Try.underlying30 (by kernel_rfl) (by kernel_rfl) rfl (by omega) (by intro j f hj; rcases j with _ | _ | _ | _ | _ | j <;> simp at hj <;> (subst hj; exact Try.underlying3)) (hval 0 22 v0 rfl rfl) h0
  clear hA0 hval0
  refine (walk W A0 k0 c0 F0 n0 b0 m0 w0).mono fun e W' ⟨he, hb⟩ => ?_
  subst he
  exact ⟨_, rfl, base.law_post base.laid (by kernel_rfl) rfl rfl Try.underlying4 hW' rfl rfl rfl hb⟩

theorem over : Rows.bidPlaysRow.holds Try.pinned (OpenSpec.ofChange Rows.bidPlaysSpec) :=
  OpenClaim.holds_of_wide 3 Try.f3 rfl rfl rfl rfl rfl rfl rfl ⟨rfl, rfl, rfl, rfl, rfl⟩ rfl rfl rfl rfl rfl (by kernel_rfl) Try.func3 (by kernel_rfl)
    (of_decide_eq_true (by kernel_rfl)) (by unfold Func.isWrapper; first | (rw [if_pos (by decide +kernel)]; kernel_rfl) | (rw [if_neg (by decide +kernel)]; exact ⟨rfl, rfl⟩))
    (fun os started H enc _ => lifted os started H enc)

theorem proved : Rows.BidPlaysSaid := over
#print axioms proved
end Go.Proofs.Ytlklfolpcebahaa.bidPlays
