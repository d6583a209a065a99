/-
  StallCopies: a copy tells the same, and goes on by itself.
-/
import Derived.Test.YthnjacfpnbhfpaaStZ
import Derived.Test.YthnjacfpnbhfpaaStAA
import Derived.Test.YthnjacfpnbhfpaaStructs
namespace Go.Proofs.Ythnjacfpnbhfpaa.stallCopies
open Go.ChangeShapes Go.WideShapes Go.ChangeAt Go.RowKit
open st mk rk
open base (ret_bool ret_int made up Blk Only IntRows)
set_option linter.unusedVariables false
set_option linter.unusedSimpArgs false

set_option maxRecDepth 100000 in
set_option maxHeartbeats 2000000 in
theorem walk_no (w : World) (A A' : Option Addr) (m c m' c' : Nat) (hm : m ≤ 9223372036854775807) (hm' : m' ≤ 9223372036854775807) (h : 60 < m ∨ 60 < m') :
    Calls Try.prog 6 #[.slice A m c, .slice A' m' c'] w fun e w' => e = .returned (.bool true) ∧ Below w.heap.size w w' := by
  have N := Lib.hid (new_ex w)
  have AW := Lib.hid (fun ws => awake_any ws)
  by_cases q : 60 < m
  · clear h
    go_enter Try.func6, Try.ntmps6
    go_wp2_with fail
    refine N.out.mono ?_
    rintro e w1 ⟨g, bs, bw, rfl, -, hb1⟩
    have B1 := Lib.hid hb1
    clear hb1
    go_wp2_with fail
    refine (AW.out _).mono ?_
    rintro e w2 ⟨rfl, hba⟩
    have BA := Lib.hid (up B1.out hba B1.out.size)
    clear hba
    go_wp2_with fail
    go_ret
    exact ⟨rfl, BA.out⟩
  · have q2 : 60 < m' := h.resolve_left q
    clear h
    go_enter Try.func6, Try.ntmps6
    go_wp2_with fail
    refine N.out.mono ?_
    rintro e w1 ⟨g, bs, bw, rfl, -, hb1⟩
    have B1 := Lib.hid hb1
    clear hb1
    go_wp2_with fail
    refine (AW.out _).mono ?_
    rintro e w2 ⟨rfl, hba⟩
    have BA := Lib.hid (up B1.out hba B1.out.size)
    clear hba
    go_wp2_with fail
    go_ret
    exact ⟨rfl, BA.out⟩
theorem wf_nth {m : Nat} {F : Nat → Nat → Int} (hw : ∀ i, i < m → ∀ j, j < 4 → -9223372036854775808 ≤ F i j ∧ F i j ≤ 9223372036854775807) {i : Nat} (hi : i < m) {j : Nat} (hj : j < 4) : (Lit.int .i64 (F i j)).wf = true := mk.wf_of (hw i hi j hj).1 (hw i hi j hj).2
theorem putB {w5 : World} {z : Nat} {u0 u1 : Value} (b : Blk w5 z 29 #[u0, u1]) (va vb : Value) : Blk ((w5.setCell ⟨z, 0, none⟩ va).setCell ⟨z, 1, none⟩ vb) z 29 #[va, vb] := by
  have b2 := (b.put 0 va).put 1 vb
  simp only [List.setIfInBounds_toArray, List.set_cons_zero, List.set_cons_succ] at b2
  exact b2
set_option maxRecDepth 100000 in
set_option maxHeartbeats 8000000 in
theorem walk_yes (w : World) (A : Option Addr) (m c : Nat) (F : Nat → Nat → Int) (h1 : IntRows w A m 4 F) (hm : m ≤ 60) (hw : ∀ i, i < m → ∀ j, j < 4 → -9223372036854775808 ≤ F i j ∧ F i j ≤ 9223372036854775807) (A' : Option Addr) (m' c' : Nat) (F' : Nat → Nat → Int) (h1' : IntRows w A' m' 4 F') (hm' : m' ≤ 60) (hw' : ∀ i, i < m' → ∀ j, j < 4 → -9223372036854775808 ≤ F' i j ∧ F' i j ≤ 9223372036854775807) :
    Calls Try.prog 6 #[.slice A m c, .slice A' m' c'] w fun e w' => e = .returned (.bool true) ∧ Below w.heap.size w w' := by
  have N := Lib.hid (new_ex w)
  have AW := Lib.hid (fun ws => awake_any ws)
  have NN := Lib.hid h1
  have HW := Lib.hid hw
  have NN2 := Lib.hid h1'
  have HW2 := Lib.hid hw'
  clear h1 hw h1' hw'
  go_enter Try.func6, Try.ntmps6
  go_wp2_with fail
  refine N.out.mono ?_
  rintro e w1 ⟨g, bs, bw, rfl, hr1, hb1⟩
  have hmx := made w1 (.cells #[.slice none 0 0, .slice none 0 0] 29)
  have R1 := Lib.hid (hr1.below hmx)
  have B1 := Lib.hid (up hb1 hmx hb1.size)
  have BX1 := Lib.hid (Blk.new w1 29 #[.slice none 0 0, .slice none 0 0])
  have HXB := Lib.hid hb1.size
  clear hr1 hb1 N hmx
  go_upto_region 5 with fail
  generalize w1.alloc (.cells #[.slice none 0 0, .slice none 0 0] 29) = w1b at *
  generalize w1.heap.size = xb at *
  go_wp2_with fail
  go_loopw [34] (fun i wr => ∃ (k : Nat) (W : World) (s : S3) (T : List C2) (G : List G3) (va vb : Value), W = wr ∧ k ≤ m ∧ i = .int .i64 k ∧ SX wr w.heap.size g bs bw s (sumT T) k ∧ Rel s (T, G) ∧ T.length ≤ k ∧ G.length ≤ k ∧ Blk wr xb 29 #[va, vb] ∧ rk.Own E2 wr w.heap.size 71 va T ∧ rk.Own E3 wr w.heap.size 69 vb G ∧ Below w.heap.size w wr) (fun i _ => m - (intOf i).toNat)
  case atStart => exact ⟨0, _, S0, [], [], _, _, rfl, by omega, rfl, R1.out, Rel.nil, by simp, by simp, BX1.out, rk.Own.nil _ _ _, rk.Own.nil _ _ _, B1.out⟩
  case round =>
  obtain ⟨k, w2, s, T, G, va, vb, rfl, hk, rfl, hx, hr, hT, hG, hbx, oT, oG, hb⟩ := hrel
  have X2 := Lib.hid hx
  have RR := Lib.hid hr
  have BX2 := Lib.hid hbx
  have OT2 := Lib.hid oT
  have OG2 := Lib.hid oG
  have B2 := Lib.hid hb
  obtain ⟨At, ct, rfl, -⟩ := oT.open_
  obtain ⟨Ag, cg, rfl, -⟩ := oG.open_
  clear hx hr hbx oT oG hb
  by_cases hkm : k < m
  · obtain ⟨b, off, rfl, _, hcell⟩ := (base.IntRows.keep NN.out B2.out) (by omega)
    have e0 := hcell k hkm 0 (by omega)
    have e1 := hcell k hkm 1 (by omega)
    have e2 := hcell k hkm 2 (by omega)
    have e3 := hcell k hkm 3 (by omega)
    rw [Nat.add_zero] at e0
    have W1 := Lib.hid (wf_nth HW.out hkm (show 1 < 4 by omega))
    have W2 := Lib.hid (wf_nth HW.out hkm (show 2 < 4 by omega))
    clear hcell
    generalize F k 0 = k0 at *
    generalize F k 1 = k1 at *
    generalize F k 2 = k2 at *
    generalize F k 3 = k3 at *
    have hm3 := made w2 (.cells #[.int .i64 k0, .int .i64 k1, .int .i64 k2, .int .i64 k3] 31)
    have X3 := Lib.hid (X2.out.below hm3)
    have BX3 := Lib.hid (BX2.out.below hm3 BX2.out.lt)
    have OT3 := Lib.hid (OT2.out.below hm3)
    have OG3 := Lib.hid (OG2.out.below hm3)
    have B3 := Lib.hid (up B2.out hm3 B2.out.size)
    have Y3 := Lib.hid (Blk.new w2 31 #[.int .i64 k0, .int .i64 k1, .int .i64 k2, .int .i64 k3])
    clear hm3 X2 BX2 OT2 OG2
    go_upto_region 8 with fail
    generalize w2.alloc (.cells #[.int .i64 k0, .int .i64 k1, .int .i64 k2, .int .i64 k3] 31) = w3 at *
    generalize w2.heap.size = ob at *
    clear e0 e1 e2 e3
    have x0 := BX3.out.cell 0
    have x1 := BX3.out.cell 1
    have o0 := Y3.out.cell 0
    have o1 := Y3.out.cell 1
    have o2 := Y3.out.cell 2
    have o3 := Y3.out.cell 3
    have SP := Lib.hid (step_any k0 k1 k2 k3 At ct T Ag cg G X3.out RR.out (by omega) (by omega) (by omega) OT3.out OG3.out B3.out.size B3.out.size W1.out W2.out)
    go_wp2_with fail
    refine SP.out.mono ?_
    rintro e w5 ⟨s2, T2, G2, va2, vb2, rfl, h4, oT4, oG4, c4, r4, l1, l2⟩
    obtain ⟨At2, ct2, rfl, -⟩ := oT4.open_
    obtain ⟨Ag2, cg2, rfl, -⟩ := oG4.open_
    have bx4 := Chg.blk c4 BX3.out rfl
    obtain ⟨hx8, y0, y1, oa8, ob8, b8, f0, f1, z0, z1, far8⟩ := fin4 (B := w.heap.size) (w := w) h4 (Chg.of_below _ (B3.out.trans (c4.to B3.out.size))) bx4 HXB.out oT4 oG4
    have X5 := Lib.hid hx8
    have OT5 := Lib.hid oa8
    have OG5 := Lib.hid ob8
    have B5 := Lib.hid (b8.to (Nat.le_refl _))
    have BX5 := Lib.hid (putB bx4 (.slice At2 T2.length ct2) (.slice Ag2 G2.length cg2))
    have R5 := Lib.hid r4
    clear h4 oT4 oG4 c4 r4 bx4 hx8 oa8 ob8 b8 far8 SP o0 o1 o2 o3 x0 x1
    have hl1 : T2.length ≤ 0 + k + 1 := by omega
    have hl2 : G2.length ≤ 0 + k + 1 := by omega
    clear l1 l2
    go_upto_region 9 with fail
    generalize ((w5.setCell ⟨xb, 0, none⟩ (.slice At2 T2.length ct2)).setCell ⟨xb, 1, none⟩ (.slice Ag2 G2.length cg2)) = w6 at *
    clear f0 f1 z0 z1 y0 y1
    go_wp2_with fail
    refine ⟨⟨k + 1, _, s2, T2, G2, _, _, rfl, by omega, by go_num, X5.out, R5.out, by omega, by omega, BX5.out, OT5.out, OG5.out, B5.out⟩, by simp [intOf]; omega⟩
  · obtain rfl : k = m := by omega
    generalize hwS : w2 = wS at *
    clear hwS
    have CP := Lib.hid (copy_any X2.out (by omega))
    clear R1 B1 BX1 NN HW
    go_wp2_with fail
    refine CP.out.mono ?_
    rintro e w3 ⟨g', bs', bw', rfl, hd3, hb3⟩
    have hmy := made w3 (.cells #[.slice At T.length ct, .slice Ag G.length cg] 29)
    have D4 := Lib.hid (hd3.below hmy)
    have BS4 := Lib.hid (up hb3 hmy hb3.size)
    have BY4 := Lib.hid (Blk.new w3 29 #[.slice At T.length ct, .slice Ag G.length cg])
    have HYB := Lib.hid hb3.size
    have OT4 := Lib.hid (OT2.out.below BS4.out)
    have OG4 := Lib.hid (OG2.out.below BS4.out)
    have x0 := (BX2.out.below hb3 BX2.out.lt).cell 0
    have x1 := (BX2.out.below hb3 BX2.out.lt).cell 1
    clear hd3 hb3 hmy CP
    go_upto_region 14 with fail
    generalize w3.alloc (.cells #[.slice At T.length ct, .slice Ag G.length cg] 29) = w4 at *
    generalize w3.heap.size = yb at *
    clear x0 x1
    have XS := Lib.hid X2.out
    have BXS := Lib.hid BX2.out
    have OTS := Lib.hid OT2.out
    have OGS := Lib.hid OG2.out
    have BW := Lib.hid B2.out
    have RRS := Lib.hid RR.out
    clear X2 BX2 OT2 OG2 B2 RR
    go_wp2_with fail
    go_loopw [53] (fun i wr => ∃ (j : Nat) (W : World) (s2 : S3) (T2 : List C2) (G2 : List G3) (va vb : Value), W = wr ∧ j ≤ m' ∧ i = .int .i64 j ∧ SX wr wS.heap.size g' bs' bw' s2 (sumT T2) (60 + j) ∧ Rel s2 (T2, G2) ∧ T2.length ≤ 60 + j ∧ G2.length ≤ 60 + j ∧ Blk wr yb 29 #[va, vb] ∧ rk.Own E2 wr w.heap.size 71 va T2 ∧ rk.Own E3 wr w.heap.size 69 vb G2 ∧ Below wS.heap.size wS wr) (fun i _ => m' - (intOf i).toNat)
    case atStart => exact ⟨0, _, s, T, G, _, _, rfl, by omega, rfl, D4.out.mono (by omega), RRS.out, by omega, by omega, BY4.out, OT4.out, OG4.out, BS4.out⟩
    case round =>
    clear D4 BY4 OT4 OG4 BS4
    obtain ⟨j, w2, s1, T1, G1, va, vb, rfl, hj, rfl, hx, hr, hT1, hG1, hbx, oT, oG, hb⟩ := hrel
    have X2 := Lib.hid hx
    have RR := Lib.hid hr
    have BX2 := Lib.hid hbx
    have OT2 := Lib.hid oT
    have OG2 := Lib.hid oG
    have BS2 := Lib.hid hb
    have B2 := Lib.hid (BW.out.trans (hb.mono BW.out.size))
    obtain ⟨At1, ct1, rfl, -⟩ := oT.open_
    obtain ⟨Ag1, cg1, rfl, -⟩ := oG.open_
    clear hx hr hbx oT oG hb
    by_cases hkm : j < m'
    · obtain ⟨b, off, rfl, _, hcell⟩ := (base.IntRows.keep NN2.out B2.out) (by omega)
      have e0 := hcell j hkm 0 (by omega)
      have e1 := hcell j hkm 1 (by omega)
      have e2 := hcell j hkm 2 (by omega)
      have e3 := hcell j hkm 3 (by omega)
      rw [Nat.add_zero] at e0
      have W1 := Lib.hid (wf_nth HW2.out hkm (show 1 < 4 by omega))
      have W2 := Lib.hid (wf_nth HW2.out hkm (show 2 < 4 by omega))
      clear hcell
      generalize F' j 0 = k0 at *
      generalize F' j 1 = k1 at *
      generalize F' j 2 = k2 at *
      generalize F' j 3 = k3 at *
      have hm3 := made w2 (.cells #[.int .i64 k0, .int .i64 k1, .int .i64 k2, .int .i64 k3] 31)
      have X3 := Lib.hid (X2.out.below hm3)
      have BX3 := Lib.hid (BX2.out.below hm3 BX2.out.lt)
      have OT3 := Lib.hid (OT2.out.below hm3)
      have OG3 := Lib.hid (OG2.out.below hm3)
      have B3 := Lib.hid (up B2.out hm3 B2.out.size)
      have Y3 := Lib.hid (Blk.new w2 31 #[.int .i64 k0, .int .i64 k1, .int .i64 k2, .int .i64 k3])
      have BS3 := Lib.hid (up BS2.out hm3 BS2.out.size)
      clear hm3 X2 BX2 OT2 OG2
      go_upto_region 17 with fail
      generalize w2.alloc (.cells #[.int .i64 k0, .int .i64 k1, .int .i64 k2, .int .i64 k3] 31) = w3b at *
      generalize w2.heap.size = ob at *
      clear e0 e1 e2 e3
      have x0 := BX3.out.cell 0
      have x1 := BX3.out.cell 1
      have o0 := Y3.out.cell 0
      have o1 := Y3.out.cell 1
      have o2 := Y3.out.cell 2
      have o3 := Y3.out.cell 3
      have SP := Lib.hid (step_any k0 k1 k2 k3 At1 ct1 T1 Ag1 cg1 G1 X3.out RR.out (by omega) (by omega) (by omega) OT3.out OG3.out BS3.out.size B3.out.size W1.out W2.out)
      go_wp2_with fail
      refine SP.out.mono ?_
      rintro e w5 ⟨s2, T2, G2, va2, vb2, rfl, h4, oT4, oG4, c4, r4, l1, l2⟩
      obtain ⟨At2, ct2, rfl, -⟩ := oT4.open_
      obtain ⟨Ag2, cg2, rfl, -⟩ := oG4.open_
      have bx4 := Chg.blk c4 BX3.out rfl
      obtain ⟨hx8, y0, y1, oa8, ob8, b8, f0, f1, z0, z1, far8⟩ := fin4 (B := wS.heap.size) (w := wS) h4 (Chg.of_below _ (BS3.out.trans (c4.to BS3.out.size))) bx4 HYB.out oT4 oG4
      have X5 := Lib.hid hx8
      have OT5 := Lib.hid oa8
      have OG5 := Lib.hid ob8
      have B5 := Lib.hid (b8.to (Nat.le_refl _))
      have BX5 := Lib.hid (putB bx4 (.slice At2 T2.length ct2) (.slice Ag2 G2.length cg2))
      have R5 := Lib.hid r4
      clear h4 oT4 oG4 c4 r4 bx4 hx8 oa8 ob8 b8 far8 SP o0 o1 o2 o3 x0 x1
      have hl1 : T2.length ≤ 60 + j + 1 := by omega
      have hl2 : G2.length ≤ 60 + j + 1 := by omega
      clear l1 l2
      go_upto_region 19 with fail
      generalize ((w5.setCell ⟨yb, 0, none⟩ (.slice At2 T2.length ct2)).setCell ⟨yb, 1, none⟩ (.slice Ag2 G2.length cg2)) = w6 at *
      clear f0 f1 z0 z1 y0 y1
      go_wp2_with fail
      refine ⟨⟨j + 1, _, s2, T2, G2, _, _, rfl, by omega, by go_num, X5.out, R5.out, by omega, by omega, BX5.out, OT5.out, OG5.out, B5.out⟩, by simp [intOf]; omega⟩
    · obtain rfl : j = m' := by omega
      have SA := Lib.hid (same_any At ct Ag cg (XS.out.below BS2.out) RRS.out (by omega) rfl (by omega) (by omega) (OTS.out.below BS2.out) (OGS.out.below BS2.out))
      have SB := Lib.hid (fun W (h : Below w2.heap.size w2 W) => same_any At1 ct1 Ag1 cg1 (X2.out.below h) RR.out (by omega) rfl (by omega) (by omega) (OT2.out.below h) (OG2.out.below h))
      have x0 := (BXS.out.below BS2.out BXS.out.lt).cell 0
      have x1 := (BXS.out.below BS2.out BXS.out.lt).cell 1
      go_wp2_with fail
      refine SA.out.mono ?_
      rintro e w5 ⟨rfl, hb5⟩
      have SC := Lib.hid (SB.out _ hb5)
      have B5 := Lib.hid (up B2.out hb5 B2.out.size)
      have y0 := (BX2.out.below hb5 BX2.out.lt).cell 0
      have y1 := (BX2.out.below hb5 BX2.out.lt).cell 1
      clear hb5 SB SA x0 x1
      go_wp2_with fail
      refine SC.out.mono ?_
      rintro e w6 ⟨rfl, hb6⟩
      have B6 := Lib.hid (up B5.out hb6 B5.out.size)
      clear hb6 SC y0 y1
      go_wp2_with fail
      refine (AW.out _).mono ?_
      rintro e w8 ⟨rfl, hba⟩
      have BA := Lib.hid (up B6.out hba B6.out.size)
      clear hba
      go_wp2_with fail
      go_ret
      exact ⟨rfl, BA.out⟩

theorem walk (w : World) (A : Option Addr) (m c : Nat) (F : Nat → Nat → Int) (h1 : IntRows w A m 4 F) (hc : m ≤ c) (hm : c ≤ maxLen) (hw : ∀ i, i < m → ∀ j, j < 4 → -9223372036854775808 ≤ F i j ∧ F i j ≤ 9223372036854775807) (A' : Option Addr) (m' c' : Nat) (F' : Nat → Nat → Int) (h1' : IntRows w A' m' 4 F') (hc' : m' ≤ c') (hm' : c' ≤ maxLen) (hw' : ∀ i, i < m' → ∀ j, j < 4 → -9223372036854775808 ≤ F' i j ∧ F' i j ≤ 9223372036854775807) :
    Calls Try.prog 6 #[.slice A m c, .slice A' m' c'] w fun e w' => e = .returned (.bool true) ∧ Below w.heap.size w w' := by
  unfold maxLen at hm hm'
  by_cases q : 60 < m ∨ 60 < m'
  · exact walk_no w A A' m c m' c' (by omega) (by omega) q
  · exact walk_yes w A m c F h1 (by omega) hw A' m' c' F' h1' (by omega) hw'

set_option maxRecDepth 100000 in
theorem lifted (os : Os) (started : os.Started) (H : Type) (enc : TypeId × Value → H) :
    ReturnsInHanded {} Try.checked os 6 .any (Rows.stallCopiesSpec.pre6 enc Try.prog Try.f6 Rows.stallCopiesRow.domain false) (Rows.stallCopiesSpec.post enc Try.prog Try.f6 false true false false) := by
  refine returnsInHanded_of_change (C := Try.checked) base.own started (by kernel_rfl) Try.func6
    (ChangeSpec.witness6 (enc := enc) (C := Try.checked) false ⟨#[], #[.slice none 0 0, .slice none 0 0], []⟩ 8 (by kernel_rfl) (by kernel_rfl) (by kernel_rfl) (by kernel_rfl)) ?_
  intro W bs args ds gs before hval0 hW _ _
  have hval : ∀ (j : Nat) t v, Try.f6.params[j]? = some t → args[j]? = some v → Value.okWide Try.prog W .any bs t v := hval0
  have hW' : DataW.Whole enc Try.prog Try.f6.params.toList Rows.stallCopiesSpec.vars false W args.toList ds gs before := hW
  obtain ⟨p, q, hA0, hV, rfl, _, _⟩ := hW
  have hA : DataW.TrodAll enc Try.prog W 0 (fun _ => true) true Try.f6.params.toList args.toList ds p := hA0
  rw [Try.params6] at hA hval
  obtain ⟨v0, vs0, d0, ds0, p0, q0, hargs, rfl, rfl, h0, r0⟩ := trodAll_cons hA
  obtain ⟨v1, vs1, d1, ds1, p1, q1, rfl, rfl, rfl, h1, r1⟩ := trodAll_cons r0
  obtain ⟨rfl, rfl, rfl⟩ := trodAll_nil r1
  obtain rfl : args = #[v0, v1] := by cases args; simp_all
  obtain ⟨rfl, rfl⟩ := trodVars_none hV
  obtain ⟨A0, k0, c0, F0, rfl, b0, m0, n0, w0⟩ := base.open_introws 4 Try.underlying22 Try.underlying31 (by kernel_rfl) (by kernel_rfl) rfl (by omega) (by intro j f hj; rcases j with _ | _ | _ | _ | j <;> simp at hj <;> (subst hj; exact Try.underlying3)) (hval 0 22 v0 rfl rfl) h0
  obtain ⟨A1, k1, c1, F1, rfl, b1, m1, n1, w1⟩ := base.open_introws 4 Try.underlying22 Try.underlying31 (by kernel_rfl) (by kernel_rfl) rfl (by omega) (by intro j f hj; rcases j with _ | _ | _ | _ | j <;> simp at hj <;> (subst hj; exact Try.underlying3)) (hval 1 22 v1 rfl rfl) h1
  clear hA0 hval0
  refine (walk W A0 k0 c0 F0 n0 b0 m0 w0 A1 k1 c1 F1 n1 b1 m1 w1).mono fun e W' ⟨he, hb⟩ => ?_
  subst he
  exact ⟨_, rfl, base.law_post base.laid (by kernel_rfl) rfl rfl Try.underlying4 hW' rfl rfl rfl hb⟩

theorem over : Rows.stallCopiesRow.holds Try.pinned (OpenSpec.ofChange Rows.stallCopiesSpec) :=
  OpenClaim.holds_of_wide 6 Try.f6 rfl rfl rfl rfl rfl rfl rfl ⟨rfl, rfl, rfl, rfl, rfl⟩ rfl rfl rfl rfl rfl (by kernel_rfl) Try.func6 (by kernel_rfl)
    (of_decide_eq_true (by kernel_rfl)) (by unfold Func.isWrapper; first | (rw [if_pos (by decide +kernel)]; kernel_rfl) | (rw [if_neg (by decide +kernel)]; exact ⟨rfl, rfl⟩))
    (fun os started H enc _ => lifted os started H enc)

theorem proved : Rows.StallCopiesSaid := over
#print axioms proved
end Go.Proofs.Ythnjacfpnbhfpaa.stallCopies
