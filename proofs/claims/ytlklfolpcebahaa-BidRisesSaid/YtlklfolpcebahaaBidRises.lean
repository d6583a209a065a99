/-
  BidRises (P25.2): for every amount and every list of calls the law answers true. Conditions: none.
-/
import Derived.Test.YtlklfolpcebahaaBidF
import Derived.Test.YtlklfolpcebahaaBidG
import Derived.Test.YtlklfolpcebahaaStructs
import Derived.Test.YtlklfolpcebahaaBase2
import Derived.BigQuiet
namespace Go.Proofs.Ytlklfolpcebahaa.bidRises
open Go.ChangeShapes Go.WideShapes Go.ChangeAt Go.RowKit
open bd
open base (ret_bool ret_int made up Blk Only Nums IntRows below_drewN)
set_option linter.unusedVariables false
set_option linter.unusedSimpArgs false

set_option maxRecDepth 100000 in
set_option maxHeartbeats 2000000 in
theorem walk_no (w : World) (l : Int) (A : Option Addr) (m c : Nat) (hm : m ≤ 9223372036854775807) (h : l < 0 ∨ 1099511627776 < l ∨ 60 < m) :
    Calls Try.prog 4 #[.int .i64 l, .slice A m c] w fun e w' => e = .returned (.bool true) ∧ Below w.heap.size w w' := by
  have N := Lib.hid (new_any w)
  have AW := Lib.hid (fun ws => awake_any ws)
  by_cases q1 : l < 0
  · clear h
    go_enter Try.func4, Try.ntmps4
    go_wp2_with fail
    refine N.out.mono ?_
    rintro e w1 ⟨rfl, -, hb1⟩
    have B1 := Lib.hid hb1
    clear hb1
    go_wp2_with fail
    refine (AW.out _).mono ?_
    rintro e w2 ⟨rfl, hb2⟩
    have B2 := Lib.hid (up B1.out hb2 B1.out.size)
    clear hb2
    go_wp2_with fail
    go_ret
    exact ⟨rfl, B2.out⟩
  · by_cases q2 : 1099511627776 < l
    · clear h
      go_enter Try.func4, Try.ntmps4
      go_wp2_with fail
      refine N.out.mono ?_
      rintro e w1 ⟨rfl, -, hb1⟩
      have B1 := Lib.hid hb1
      clear hb1
      go_wp2_with fail
      refine (AW.out _).mono ?_
      rintro e w2 ⟨rfl, hb2⟩
      have B2 := Lib.hid (up B1.out hb2 B1.out.size)
      clear hb2
      go_wp2_with fail
      go_ret
      exact ⟨rfl, B2.out⟩
    · have q3 : 60 < m := by omega
      clear h
      go_enter Try.func4, Try.ntmps4
      go_wp2_with fail
      refine N.out.mono ?_
      rintro e w1 ⟨rfl, -, hb1⟩
      have B1 := Lib.hid hb1
      clear hb1
      go_wp2_with fail
      refine (AW.out _).mono ?_
      rintro e w2 ⟨rfl, hb2⟩
      have B2 := Lib.hid (up B1.out hb2 B1.out.size)
      clear hb2
      go_wp2_with fail
      go_ret
      exact ⟨rfl, B2.out⟩

theorem rises {last z who l : Int} (h1 : 0 < who → l ≤ last) (h : askOf l last who ≤ z) (h0 : 0 ≤ last) (h2 : 0 ≤ who) :
    l ≤ z ∧ (0 < who → last < z ∧ last - 19 ≤ 20 * (z - last)) := by
  unfold askOf at h
  by_cases q : who = 0
  · rw [if_pos q] at h
    exact ⟨h, fun r => by omega⟩
  · rw [if_neg q] at h
    unfold stepOf at h
    have := h1 (by omega)
    by_cases q2 : last < 40
    · rw [if_pos q2] at h
      exact ⟨by omega, fun _ => ⟨by omega, by omega⟩⟩
    · rw [if_neg q2] at h
      exact ⟨by omega, fun _ => ⟨by omega, by omega⟩⟩

set_option maxRecDepth 100000 in
set_option maxHeartbeats 4000000 in
theorem walk_yes (w : World) (l : Int) (hl : 0 ≤ l ∧ l ≤ 1099511627776) (A : Option Addr) (m c : Nat) (F : Nat → Nat → Int) (h1 : IntRows w A m 5 F) (hm : m ≤ 60) (hc : m ≤ c) (hcm : c ≤ 9223372036854775807) (hF : ∀ i, i < m → ∀ j, j < 5 → -9223372036854775808 ≤ F i j ∧ F i j ≤ 9223372036854775807) :
    Calls Try.prog 4 #[.int .i64 l, .slice A m c] w fun e w' => e = .returned (.bool true) ∧ Below w.heap.size w w' := by
  have N := Lib.hid (new_any w)
  have AW := Lib.hid (fun ws => awake_any ws)
  have NN := Lib.hid h1
  have FF := Lib.hid hF
  obtain ⟨hl0, hl1⟩ := hl
  clear h1 hF
  go_enter Try.func4, Try.ntmps4
  go_wp2_with fail
  refine N.out.mono ?_
  rintro e w1 ⟨rfl, hb, hbl⟩
  have OP := Lib.hid (open_any w.heap.size 1 l 9 w.heap.size w1 (Nat.le_refl _) (by omega) ⟨hl0, hl1⟩ (by omega) hb)
  have B1 := Lib.hid hbl
  clear hb hbl N
  go_wp2_with fail
  refine OP.out.mono ?_
  rintro e w2 ⟨rfl, hb2, gl, cap, ho, hgl⟩
  have GL := Lib.hid hgl
  have B2 := Lib.hid (B1.out.trans hb2)
  have O2 := Lib.hid ho
  clear hb2 ho hgl OP B1
  go_wp2_with fail
  go_loopw [8, 9, 10, 11, 47] (fun a b p q i wr => ∃ (k : Nat) (W : World) (last who back : Int), W = wr ∧ k ≤ m ∧ i = .int .i64 k ∧ a = .int .i64 last ∧ b = .int .i64 who ∧ p = .int .i64 (back + last) ∧ q = .int .i64 back ∧
    One wr w.heap.size gl cap 1 l last who 9 ∧ Below w.heap.size w wr ∧ (0 ≤ last ∧ last ≤ 1099511627776) ∧ (0 ≤ who ∧ who ≤ 9223372036854775807) ∧ (0 < who → l ≤ last) ∧ (who = 0 → last = 0) ∧ 0 ≤ back ∧ back ≤ k * 1099511627776) (fun _ _ _ _ i _ => m - (intOf i).toNat)
  case atStart => exact ⟨0, _, 0, 0, 0, rfl, by omega, rfl, rfl, rfl, rfl, rfl, O2.out, B2.out, by omega, by omega, fun h => absurd h (by omega), fun _ => rfl, by omega, by omega⟩
  case round =>
    obtain ⟨k, w3, last, who, back, rfl, hk, rfl, rfl, rfl, rfl, rfl, ho, hb, ⟨hs0, hs1⟩, ⟨hw0, hw1⟩, hll, hz0, hk0, hk1⟩ := hrel
    have B3 := Lib.hid hb
    have O3 := Lib.hid ho
    have LL := Lib.hid hll
    have Z0 := Lib.hid hz0
    by_cases hkm : k < m
    · have hk60 : (k : Int) * 1099511627776 ≤ 60 * 1099511627776 := Int.mul_le_mul_of_nonneg_right (by omega) (by omega)
      have hbk : back ≤ 65970697666560 := by omega
      have K1 := Lib.hid hk1
      obtain ⟨b, off, rfl, _, hcell⟩ := (base.IntRows.keep NN.out hb) (by omega)
      have hf2 := FF.out k hkm 2 (by omega)
      have hf3 := FF.out k hkm 3 (by omega)
      have e0 := hcell k hkm 0 (by omega)
      have e1 := hcell k hkm 1 (by omega)
      have e2 := hcell k hkm 2 (by omega)
      have e3 := hcell k hkm 3 (by omega)
      have e4 := hcell k hkm 4 (by omega)
      rw [Nat.add_zero] at e0
      clear hcell ho hb hll hz0 hk1 hk60
      generalize F k 0 = k0 at *
      generalize F k 1 = k1 at *
      generalize F k 2 = p2 at *
      generalize F k 3 = z at *
      generalize F k 4 = k4 at *
      have hm3 := made w3 (.cells #[.int .i64 k0, .int .i64 k1, .int .i64 p2, .int .i64 z, .int .i64 k4] 30)
      have B4 := Lib.hid (up B3.out hm3 B3.out.size)
      have O4 := Lib.hid (O3.out.below hm3)
      have bo : Blk (w3.alloc (.cells #[.int .i64 k0, .int .i64 k1, .int .i64 p2, .int .i64 z, .int .i64 k4] 30)) w3.heap.size 30 #[.int .i64 k0, .int .i64 k1, .int .i64 p2, .int .i64 z, .int .i64 k4] := Blk.new _ _ _
      have BO := Lib.hid bo
      have o2 := bo.cell 2
      have o3 := bo.cell 3
      clear bo hm3
      by_cases hgo : p2 < 1 ∨ p2 = 1 ∨ z < 0 ∨ 1099511627776 < z ∨ z < askOf l last who
      · have BN := Lib.hid (bid_no w.heap.size gl cap 1 l last who 9 p2 z _ O4.out ⟨hs0, hs1⟩ hw0 hgo)
        clear hgo
        go_wp2_with fail
        generalize w3.alloc (.cells #[.int .i64 k0, .int .i64 k1, .int .i64 p2, .int .i64 z, .int .i64 k4] 30) = w4 at *
        refine BN.out.mono ?_
        rintro e w5 ⟨kk, hkk, rfl, hb5⟩
        have hm5 := made w5 (.cells #[.int .i64 0, .int .i64 0, .int .i64 0, .int .i64 0, .int .i64 0, .int .i64 0, .int .i64 0] 35)
        have B5 := Lib.hid (up (up B4.out hb5 B4.out.size) hm5 (Nat.le_trans B4.out.size hb5.size))
        have O5 := Lib.hid ((O4.out.below hb5).below hm5)
        have q1 : (kk != 0) = true := by simpa using hkk
        clear hb5 hm5 BN o2 o3 e0 e1 e2 e3 e4 hkk
        go_wp2_with fail
        refine ⟨⟨k + 1, _, last, who, back, rfl, by omega, by go_num, rfl, rfl, rfl, rfl, O5.out, B5.out, by omega, by omega, LL.out, Z0.out, by omega, by have := K1.out; omega⟩, by simp [intOf]; omega⟩
      · have hp2 : 1 < p2 := by omega
        have hza : 0 ≤ z ∧ z ≤ 1099511627776 := by omega
        obtain ⟨hr1, hr2⟩ := rises (l := l) LL.out (show askOf l last who ≤ z by omega) hs0 hw0
        have BY := Lib.hid (bid_yes w.heap.size gl cap 1 l last who 9 p2 z _ O4.out hp2 hza ⟨hs0, hs1⟩ hw0 (by omega) w.heap.size ⟨GL.out, B4.out.size⟩)
        obtain ⟨hz1, hz2⟩ := hza
        clear hgo
        go_wp2_with fail
        generalize w3.alloc (.cells #[.int .i64 k0, .int .i64 k1, .int .i64 p2, .int .i64 z, .int .i64 k4] 30) = w4 at *
        refine BY.out.mono ?_
        rintro e w5 ⟨rfl, hb5, ho5, hq5⟩
        have hm5 := made w5 (.cells #[.int .i64 1, .int .i64 1, .int .i64 1, .int .i64 l, .int .i64 last, .int .i64 who, .int .i64 9] 35)
        have BG := Lib.hid (show w3.heap.size ≠ gl from fun e => by have := O3.out.row.lt; omega)
        have B5 := Lib.hid (up (B4.out.trans hb5) hm5 (B4.out.trans hb5).size)
        have O5 := Lib.hid (ho5.below hm5)
        have BO5 := Lib.hid ((BO.out.only hq5 BG.out).alloc (.cells #[.int .i64 1, .int .i64 1, .int .i64 1, .int .i64 l, .int .i64 last, .int .i64 who, .int .i64 9] 35))
        have BT5 := Lib.hid (Blk.new w5 35 #[.int .i64 1, .int .i64 1, .int .i64 1, .int .i64 l, .int .i64 last, .int .i64 who, .int .i64 9])
        clear hb5 ho5 hq5 hm5 BY o2 o3 e0 e1 e2 e3 e4 BG
        generalize hw6 : w5.alloc (.cells #[.int .i64 1, .int .i64 1, .int .i64 1, .int .i64 l, .int .i64 last, .int .i64 who, .int .i64 9] 35) = w6 at *
        have o2 := BO5.out.cell 2
        have o3 := BO5.out.cell 3
        have t4 := BT5.out.cell 4
        have t5 := BT5.out.cell 5
        have hzw : IntKind.i64.wrap (z - last) = z - last := IntWalk.i64_in _ (by omega)
        have hzw2 : IntKind.i64.wrap (20 * (z - last)) = 20 * (z - last) := IntWalk.i64_in _ (by omega)
        have hzw3 : IntKind.i64.wrap (last - 19) = last - 19 := IntWalk.i64_in _ (by omega)
        have hlt := O5.out.blk.lt
        by_cases hw00 : who = 0
        · subst hw00
          obtain rfl : last = 0 := Z0.out rfl
          go_wp2_with (rw [hw6])
          go_quiet (fail)
          revert nq
          intro n1
          go_wp2_with fail
          go_quiet (fail)
          have HE := Lib.hid (fun ws (h : Below w6.heap.size w6 ws) => held_any _ _ _ _ _ _ _ _ ws (O5.out.below h) ⟨hz1, hz2⟩)
          have BW := Lib.hid (below_drewN (Below.refl w6.heap.size w6) (n1 + nq))
          clear o2 o3 t4 t5
          go_wp2_with fail
          generalize w6.drewN (n1 + nq) = w7 at *
          refine (HE.out _ BW.out).mono ?_
          rintro e w8 ⟨rfl, hb8⟩
          have B8 := Lib.hid (up BW.out hb8 BW.out.size)
          clear hb8
          go_wp2_with fail
          refine (HE.out _ B8.out).mono ?_
          rintro e w9 ⟨rfl, hb9⟩
          have B9 := Lib.hid (up B8.out hb9 B8.out.size)
          clear hb9 HE
          go_wp2_with fail
          refine ⟨⟨k + 1, _, z, p2, back, rfl, by omega, by go_num, rfl, rfl, by first | rfl | (congr 1; omega), by first | rfl | (congr 1; omega), O5.out.below B9.out, up B5.out B9.out B5.out.size, ⟨hz1, hz2⟩, by omega, fun _ => hr1, fun h => absurd h (by omega), by omega, by have := K1.out; omega⟩, by simp [intOf]; omega⟩
        · have hwp : 0 < who := by omega
          obtain ⟨hr3, hr4⟩ := hr2 hwp
          go_wp2_with (rw [hw6])
          go_quiet (fail)
          revert nq
          intro n1
          go_wp2_with fail
          go_quiet (fail)
          have HE := Lib.hid (fun ws (h : Below w6.heap.size w6 ws) => held_any _ _ _ _ _ _ _ _ ws (O5.out.below h) ⟨hz1, hz2⟩)
          have BW := Lib.hid (below_drewN (Below.refl w6.heap.size w6) (n1 + nq))
          clear o2 o3 t4 t5
          go_wp2_with fail
          generalize w6.drewN (n1 + nq) = w7 at *
          refine (HE.out _ BW.out).mono ?_
          rintro e w8 ⟨rfl, hb8⟩
          have B8 := Lib.hid (up BW.out hb8 BW.out.size)
          clear hb8
          go_wp2_with fail
          refine (HE.out _ B8.out).mono ?_
          rintro e w9 ⟨rfl, hb9⟩
          have B9 := Lib.hid (up B8.out hb9 B8.out.size)
          clear hb9 HE
          go_wp2_with fail
          refine ⟨⟨k + 1, _, z, p2, (back + last), rfl, by omega, by go_num, rfl, rfl, by first | rfl | (congr 1; omega), by first | rfl | (congr 1; omega), O5.out.below B9.out, up B5.out B9.out B5.out.size, ⟨hz1, hz2⟩, by omega, fun _ => hr1, fun h => absurd h (by omega), by omega, by have := K1.out; omega⟩, by simp [intOf]; omega⟩
    · obtain rfl : k = m := by omega
      clear hb ho hll hz0
      go_wp2_with fail
      refine (AW.out _).mono ?_
      rintro e w4 ⟨rfl, hb4⟩
      have B4 := Lib.hid (up B3.out hb4 B3.out.size)
      clear hb4
      go_wp2_with fail
      go_ret
      exact ⟨rfl, B4.out⟩

theorem walk (w : World) (l : Int) (wl : (Lit.int .i64 l).wf = true) (A : Option Addr) (m c : Nat) (F : Nat → Nat → Int) (h1 : IntRows w A m 5 F) (hc : m ≤ c) (hm : c ≤ maxLen) (hw : ∀ i, i < m → ∀ j, j < 5 → -9223372036854775808 ≤ F i j ∧ F i j ≤ 9223372036854775807) :
    Calls Try.prog 4 #[.int .i64 l, .slice A m c] w fun e w' => e = .returned (.bool true) ∧ Below w.heap.size w w' := by
  unfold maxLen at hm
  by_cases q : l < 0 ∨ 1099511627776 < l ∨ 60 < m
  · exact walk_no w l A m c (by omega) q
  · exact walk_yes w l (by omega) A m c F h1 (by omega) hc (by omega) hw

set_option maxRecDepth 100000 in
theorem lifted (os : Os) (started : os.Started) (H : Type) (enc : TypeId × Value → H) :
    ReturnsInHanded {} Try.checked os 4 .any (Rows.bidRisesSpec.pre6 enc Try.prog Try.f4 Rows.bidRisesRow.domain false) (Rows.bidRisesSpec.post enc Try.prog Try.f4 false true false false) := by
  refine returnsInHanded_of_change (C := Try.checked) base.own started (by kernel_rfl) Try.func4
    (ChangeSpec.witness6 (enc := enc) (C := Try.checked) false ⟨#[], #[.int .i64 0, .slice none 0 0], []⟩ 8 (by kernel_rfl) (by kernel_rfl) (by kernel_rfl) (by kernel_rfl)) ?_
  intro W bs args ds gs before hval0 hW _ _
  have hval : ∀ (j : Nat) t v, Try.f4.params[j]? = some t → args[j]? = some v → Value.okWide Try.prog W .any bs t v := hval0
  have hW' : DataW.Whole enc Try.prog Try.f4.params.toList Rows.bidRisesSpec.vars false W args.toList ds gs before := hW
  obtain ⟨p, q, hA0, hV, rfl, _, _⟩ := hW
  have hA : DataW.TrodAll enc Try.prog W 0 (fun _ => true) true Try.f4.params.toList args.toList ds p := hA0
  rw [Try.params4] at hA hval
  obtain ⟨v0, vs0, d0, ds0, p0, q0, hargs, rfl, rfl, h0, r0⟩ := trodAll_cons hA
  obtain ⟨v1, vs1, d1, ds1, p1, q1, rfl, rfl, rfl, h1, r1⟩ := trodAll_cons r0
  obtain ⟨rfl, rfl, rfl⟩ := trodAll_nil r1
  obtain rfl : args = #[v0, v1] := by cases args; simp_all
  obtain ⟨rfl, rfl⟩ := trodVars_none hV
  obtain ⟨a0, rfl, rfl, rfl, w0⟩ := open_int Try.underlying3 (hval 0 3 v0 rfl rfl) h0
  obtain ⟨A1, k1, c1, F1, rfl, b1, m1, n1, w1⟩ := base.open_introws 5 Try.underlying22 Try.underlying30 (by kernel_rfl) (by kernel_rfl) rfl (by omega) (by intro j f hj; rcases j with _ | _ | _ | _ | _ | j <;> simp at hj <;> (subst hj; exact Try.underlying3)) (hval 1 22 v1 rfl rfl) h1
  clear hA0 hval0
  refine (walk W a0 w0 A1 k1 c1 F1 n1 b1 m1 w1).mono fun e W' ⟨he, hb⟩ => ?_
  subst he
  exact ⟨_, rfl, base.law_post base.laid (by kernel_rfl) rfl rfl Try.underlying4 hW' rfl rfl rfl hb⟩

theorem over : Rows.bidRisesRow.holds Try.pinned (OpenSpec.ofChange Rows.bidRisesSpec) :=
  OpenClaim.holds_of_wide 4 Try.f4 rfl rfl rfl rfl rfl rfl rfl ⟨rfl, rfl, rfl, rfl, rfl⟩ rfl rfl rfl rfl rfl (by kernel_rfl) Try.func4 (by kernel_rfl)
    (of_decide_eq_true (by kernel_rfl)) (by unfold Func.isWrapper; first | (rw [if_pos (by decide +kernel)]; kernel_rfl) | (rw [if_neg (by decide +kernel)]; exact ⟨rfl, rfl⟩))
    (fun os started H enc _ => lifted os started H enc)

theorem proved : Rows.BidRisesSaid := over
#print axioms proved
end Go.Proofs.Ytlklfolpcebahaa.bidRises
