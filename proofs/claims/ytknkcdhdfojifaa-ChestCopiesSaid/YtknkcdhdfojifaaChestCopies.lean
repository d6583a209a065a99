/-
  ChestCopies: a copy tells the same, and goes on by itself.
-/
import Derived.Test.YtknkcdhdfojifaaChL
import Derived.Test.YtknkcdhdfojifaaChM
import Derived.Test.YtknkcdhdfojifaaChR
import Derived.Test.YtknkcdhdfojifaaStructs
import Derived.Test.YtknkcdhdfojifaaBase2
namespace Go.Proofs.Ytknkcdhdfojifaa.chestCopies
open Go.ChangeShapes Go.WideShapes Go.ChangeAt Go.RowKit
open ch mk rk
open base (ret_bool ret_int made up Blk Only IntRows)
set_option linter.unusedVariables false
set_option linter.unusedSimpArgs false

set_option maxRecDepth 100000 in
set_option maxHeartbeats 2000000 in
theorem walk_no (w : World) (A A' : Option Addr) (m c m' c' : Nat) (hm : m ≤ 9223372036854775807) (hm' : m' ≤ 9223372036854775807) (h : 60 < m ∨ 60 < m') :
    Calls Try.prog 6 #[.slice A m c, .slice A' m' c'] w fun e w' => e = .returned (.bool true) ∧ Below w.heap.size w w' := by
  have N := Lib.hid (fun ws => new_any ws.heap.size ws (Nat.le_refl _))
  have AW := Lib.hid (fun ws => awake_any ws)
  by_cases q : 60 < m
  · clear h
    go_enter Try.func6, Try.ntmps6
    go_wp2_with fail
    refine (N.out _).mono ?_
    rintro e w1 ⟨rfl, -, hb1⟩
    have B1 := Lib.hid hb1
    clear hb1
    go_wp2_with fail
    refine (AW.out _).mono ?_
    rintro e w2 ⟨rfl, hba⟩
    have BA := Lib.hid (up B1.out hba B1.out.size)
    clear hba
    go_wp2_with fail
    go_ret
    exact ⟨rfl, BA.out⟩
  · have q2 : 60 < m' := h.resolve_left q
    clear h
    go_enter Try.func6, Try.ntmps6
    go_wp2_with fail
    refine (N.out _).mono ?_
    rintro e w1 ⟨rfl, -, hb1⟩
    have B1 := Lib.hid hb1
    clear hb1
    go_wp2_with fail
    refine (AW.out _).mono ?_
    rintro e w2 ⟨rfl, hba⟩
    have BA := Lib.hid (up B1.out hba B1.out.size)
    clear hba
    go_wp2_with fail
    go_ret
    exact ⟨rfl, BA.out⟩
theorem wf_nth {m : Nat} {F : Nat → Nat → Int} (hw : ∀ i, i < m → ∀ j, j < 4 → -9223372036854775808 ≤ F i j ∧ F i j ≤ 9223372036854775807) {i : Nat} (hi : i < m) {j : Nat} (hj : j < 4) : (Lit.int .i64 (F i j)).wf = true := mk.wf_of (hw i hi j hj).1 (hw i hi j hj).2
set_option maxRecDepth 100000 in
set_option maxHeartbeats 8000000 in
theorem walk_yes (w : World) (A : Option Addr) (m c : Nat) (F : Nat → Nat → Int) (h1 : IntRows w A m 4 F) (hm : m ≤ 60) (hw : ∀ i, i < m → ∀ j, j < 4 → -9223372036854775808 ≤ F i j ∧ F i j ≤ 9223372036854775807) (A' : Option Addr) (m' c' : Nat) (F' : Nat → Nat → Int) (h1' : IntRows w A' m' 4 F') (hm' : m' ≤ 60) (hw' : ∀ i, i < m' → ∀ j, j < 4 → -9223372036854775808 ≤ F' i j ∧ F' i j ≤ 9223372036854775807) :
    Calls Try.prog 6 #[.slice A m c, .slice A' m' c'] w fun e w' => e = .returned (.bool true) ∧ Below w.heap.size w w' := by
  have N := Lib.hid (fun ws => new_any ws.heap.size ws (Nat.le_refl _))
  have AW := Lib.hid (fun ws => awake_any ws)
  have NN := Lib.hid h1
  have HW := Lib.hid hw
  have NN2 := Lib.hid h1'
  have HW2 := Lib.hid hw'
  clear h1 hw h1' hw'
  go_enter Try.func6, Try.ntmps6
  go_wp2_with fail
  refine (N.out _).mono ?_
  rintro e w1 ⟨rfl, hr1, hb1⟩
  have R1 := Lib.hid hr1
  have B1 := Lib.hid hb1
  clear hr1 hb1 N
  go_wp2_with fail
  go_loopw [6, 34] (fun x i wr => ∃ (k : Nat) (W : World) (L : List C2) (cn : Nat), W = wr ∧ k ≤ m ∧ i = .int .i64 k ∧ CAt wr w.heap.size (w.heap.size + 1) w.heap.size L cn ∧ cn ≤ k ∧ rk.Own E2 wr w.heap.size 37 x L ∧ L.length ≤ k ∧ Gd L ∧ Tch w.heap.size w.heap.size w1 wr) (fun _ i _ => m - (intOf i).toNat)
  case atStart => exact ⟨0, _, [], 0, rfl, by omega, rfl, R1.out, by omega, rk.Own.nil _ _ _, by simp, fun d hd => (by cases hd), Only.refl _ _⟩
  case round =>
  obtain ⟨k, w2, L, cn, rfl, hk, rfl, hr, hcn, ho, hll, hg, hmu⟩ := hrel
  have R2 := Lib.hid hr
  have O2 := Lib.hid ho
  have M2 := Lib.hid hmu
  have GD := Lib.hid hg
  obtain ⟨Ax, cx, rfl, -⟩ := ho.open_
  have C2_ := Lib.hid (show Below w.heap.size w w2 from B1.out.trans (Tch.to hmu (Nat.le_refl _) B1.out.size))
  clear hr ho hmu hg
  by_cases hkm : k < m
  · obtain ⟨b, off, rfl, _, hcell⟩ := (base.IntRows.keep NN.out C2_.out) (by omega)
    have e0 := hcell k hkm 0 (by omega)
    have e1 := hcell k hkm 1 (by omega)
    have e2 := hcell k hkm 2 (by omega)
    have e3 := hcell k hkm 3 (by omega)
    rw [Nat.add_zero] at e0
    have WN := Lib.hid (wf_nth HW.out hkm (show 1 < 4 by omega))
    have WI := Lib.hid (wf_nth HW.out hkm (show 2 < 4 by omega))
    clear hcell
    generalize F k 0 = k0 at *
    generalize F k 1 = k1 at *
    generalize F k 2 = k2 at *
    generalize F k 3 = k3 at *
    have hm3 := made w2 (.cells #[.int .i64 k0, .int .i64 k1, .int .i64 k2, .int .i64 k3] 28)
    have R3_ := Lib.hid (R2.out.below hm3)
    have O3 := Lib.hid (rk.Own.below O2.out hm3)
    have M3 := Lib.hid (Tch.then_ M2.out hm3)
    have HS := Lib.hid (Nat.le_trans C2_.out.size hm3.size)
    have HS2 := Lib.hid (Nat.le_trans M2.out.size hm3.size)
    have X3 := Lib.hid (Blk.new w2 28 #[.int .i64 k0, .int .i64 k1, .int .i64 k2, .int .i64 k3])
    clear hm3
    go_upto_region 8 with fail
    generalize w2.alloc (.cells #[.int .i64 k0, .int .i64 k1, .int .i64 k2, .int .i64 k3] 28) = w3 at *
    clear e0 e1 e2 e3
    have o0 := X3.out.cell 0
    have o1 := X3.out.cell 1
    have o2 := X3.out.cell 2
    have o3 := X3.out.cell 3
    have SP := Lib.hid (step_any k0 Ax cx L k1 k2 k3 w.heap.size w.heap.size (w.heap.size + 1) w.heap.size cn w3 R3_.out O3.out (by omega) (by omega) HS.out HS.out WN.out WI.out)
    have SG := Lib.hid (step_len L k0 k1 k2 k3)
    have G2 := Lib.hid (step_good GD.out k0 k1 k2 k3 WN.out)
    generalize stepS L k0 k1 k2 k3 = L2 at *
    go_wp2_with fail
    refine SP.out.mono ?_
    rintro e w4 ⟨v4, c4, rfl, hr4, hc4, ho4, hm4⟩
    have R4 := Lib.hid hr4
    have O4 := Lib.hid ho4
    have M4 := Lib.hid (show Tch w.heap.size w.heap.size w1 w4 from Only.trans M3.out hm4 (fun k hk h => tch_back M3.out hk h))
    obtain ⟨A4, d4, rfl, -⟩ := ho4.open_
    have hsz := SG.out
    clear hr4 ho4 hm4 SP o0 o1 o2 o3
    go_wp2_with fail
    refine ⟨⟨k + 1, _, L2, c4, rfl, by omega, by go_num, R4.out, by omega, O4.out, by omega, G2.out, M4.out⟩, by simp [intOf]; omega⟩
  · obtain rfl : k = m := by omega
    generalize hwS : w2 = wS at *
    have CP := Lib.hid (copy_any R2.out (by omega) (by omega) (fun d hd => (GD.out d hd).1.2))
    clear R1 B1 M2 NN HW
    clear hwS
    go_wp2_with fail
    refine CP.out.mono ?_
    rintro e w3 ⟨c3, rfl, hd3, hc3, hb3⟩
    have D3 := Lib.hid hd3
    have B3 := Lib.hid hb3
    have RS := Lib.hid R2.out
    have OS := Lib.hid O2.out
    have CS := Lib.hid C2_.out
    have GS := Lib.hid GD.out
    have O3 := Lib.hid (rk.Own.below O2.out hb3)
    clear hd3 hb3 CP R2 O2 C2_ GD
    go_wp2_with fail
    go_loopw [10, 53] (fun x i wr => ∃ (k : Nat) (W : World) (L2 : List C2) (cn2 : Nat), W = wr ∧ k ≤ m' ∧ i = .int .i64 k ∧ CAt wr wS.heap.size (wS.heap.size + 1) wS.heap.size L2 cn2 ∧ cn2 ≤ 60 + k ∧ rk.Own E2 wr w.heap.size 37 x L2 ∧ L2.length ≤ 60 + k ∧ Gd L2 ∧ Tch wS.heap.size wS.heap.size w3 wr) (fun _ i _ => m' - (intOf i).toNat)
    case atStart => exact ⟨0, _, L, c3, rfl, by omega, rfl, D3.out, by omega, O3.out, by omega, GS.out, Only.refl _ _⟩
    case round =>
    obtain ⟨k, w2, L2, cn2, rfl, hk, rfl, hr, hcn2, ho, hll2, hg, hmu⟩ := hrel
    have R2 := Lib.hid hr
    have O2 := Lib.hid ho
    have M2 := Lib.hid hmu
    have GD := Lib.hid hg
    obtain ⟨Ay, cy, rfl, -⟩ := ho.open_
    have BS := Lib.hid (show Below wS.heap.size wS w2 from B3.out.trans (Tch.to hmu (Nat.le_refl _) B3.out.size))
    have C2_ := Lib.hid (show Below w.heap.size w w2 from CS.out.trans (BS.out.mono CS.out.size))
    clear hr ho hmu hg
    by_cases hkm : k < m'
    · obtain ⟨b, off, rfl, _, hcell⟩ := (base.IntRows.keep NN2.out C2_.out) (by omega)
      have e0 := hcell k hkm 0 (by omega)
      have e1 := hcell k hkm 1 (by omega)
      have e2 := hcell k hkm 2 (by omega)
      have e3 := hcell k hkm 3 (by omega)
      rw [Nat.add_zero] at e0
      have WN := Lib.hid (wf_nth HW2.out hkm (show 1 < 4 by omega))
      have WI := Lib.hid (wf_nth HW2.out hkm (show 2 < 4 by omega))
      clear hcell
      generalize F' k 0 = k0 at *
      generalize F' k 1 = k1 at *
      generalize F' k 2 = k2 at *
      generalize F' k 3 = k3 at *
      have hm3 := made w2 (.cells #[.int .i64 k0, .int .i64 k1, .int .i64 k2, .int .i64 k3] 28)
      have R3_ := Lib.hid (R2.out.below hm3)
      have O4_ := Lib.hid (rk.Own.below O2.out hm3)
      have M3 := Lib.hid (Tch.then_ M2.out hm3)
      have HS := Lib.hid (Nat.le_trans C2_.out.size hm3.size)
      have HS2 := Lib.hid (Nat.le_trans M2.out.size hm3.size)
      have X3 := Lib.hid (Blk.new w2 28 #[.int .i64 k0, .int .i64 k1, .int .i64 k2, .int .i64 k3])
      clear hm3
      go_upto_region 18 with fail
      generalize w2.alloc (.cells #[.int .i64 k0, .int .i64 k1, .int .i64 k2, .int .i64 k3] 28) = w4 at *
      clear e0 e1 e2 e3
      have o0 := X3.out.cell 0
      have o1 := X3.out.cell 1
      have o2 := X3.out.cell 2
      have o3 := X3.out.cell 3
      have SP := Lib.hid (step_any k0 Ay cy L2 k1 k2 k3 w.heap.size wS.heap.size (wS.heap.size + 1) wS.heap.size cn2 w4 R3_.out O4_.out (by omega) (by omega) (Nat.le_trans B3.out.size HS2.out) HS.out WN.out WI.out)
      have SG := Lib.hid (step_len L2 k0 k1 k2 k3)
      have G2 := Lib.hid (step_good GD.out k0 k1 k2 k3 WN.out)
      generalize stepS L2 k0 k1 k2 k3 = L3 at *
      go_wp2_with fail
      refine SP.out.mono ?_
      rintro e w5 ⟨v5, c5, rfl, hr5, hc5, ho5, hm5⟩
      have R5 := Lib.hid hr5
      have O5 := Lib.hid ho5
      have M5 := Lib.hid (show Tch wS.heap.size wS.heap.size w3 w5 from Only.trans M3.out hm5 (fun k hk h => tch_back M3.out hk h))
      obtain ⟨A5, d5, rfl, -⟩ := ho5.open_
      have hsz := SG.out
      clear hr5 ho5 hm5 SP o0 o1 o2 o3
      go_wp2_with fail
      refine ⟨⟨k + 1, _, L3, c5, rfl, by omega, by go_num, R5.out, by omega, O5.out, by omega, G2.out, M5.out⟩, by simp [intOf]; omega⟩
    · obtain rfl : k = m' := by omega
      have RS2 := Lib.hid (RS.out.below BS.out)
      have OS2 := Lib.hid (rk.Own.below OS.out BS.out)
      have SA := Lib.hid (same_any (c := cx) RS2.out (layE OS2.out) (by omega) (by omega) GS.out)
      have SB := Lib.hid (fun ws (h : Below w2.heap.size w2 ws) => same_any (c := cy) (R2.out.below h) (layE (rk.Own.below O2.out h)) (by omega) (by omega) GD.out)
      clear RS2 OS2 RS OS BS M2 GS GD NN2 HW2
      go_wp2_with fail
      refine SA.out.mono ?_
      rintro e w5 ⟨rfl, hb5⟩
      have SC := Lib.hid (SB.out _ hb5)
      have B5 := Lib.hid (up C2_.out hb5 C2_.out.size)
      clear hb5 SB SA
      go_wp2_with fail
      refine SC.out.mono ?_
      rintro e w6 ⟨rfl, hb6⟩
      have B6 := Lib.hid (up B5.out hb6 B5.out.size)
      clear hb6 SC
      go_wp2_with fail
      refine (AW.out _).mono ?_
      rintro e w8 ⟨rfl, hba⟩
      have BA := Lib.hid (up B6.out hba B6.out.size)
      clear hba
      go_wp2_with fail
      go_ret
      exact ⟨rfl, BA.out⟩

theorem walk (w : World) (A : Option Addr) (m c : Nat) (F : Nat → Nat → Int) (h1 : IntRows w A m 4 F) (hc : m ≤ c) (hm : c ≤ maxLen) (hw : ∀ i, i < m → ∀ j, j < 4 → -9223372036854775808 ≤ F i j ∧ F i j ≤ 9223372036854775807) (A' : Option Addr) (m' c' : Nat) (F' : Nat → Nat → Int) (h1' : IntRows w A' m' 4 F') (hc' : m' ≤ c') (hm' : c' ≤ maxLen) (hw' : ∀ i, i < m' → ∀ j, j < 4 → -9223372036854775808 ≤ F' i j ∧ F' i j ≤ 9223372036854775807) :
    Calls Try.prog 6 #[.slice A m c, .slice A' m' c'] w fun e w' => e = .returned (.bool true) ∧ Below w.heap.size w w' := by
  unfold maxLen at hm hm'
  by_cases q : 60 < m ∨ 60 < m'
  · exact walk_no w A A' m c m' c' (by omega) (by omega) q
  · exact walk_yes w A m c F h1 (by omega) hw A' m' c' F' h1' (by omega) hw'

set_option maxRecDepth 100000 in
theorem lifted (os : Os) (started : os.Started) (H : Type) (enc : TypeId × Value → H) :
    ReturnsInHanded {} Try.checked os 6 .any (Rows.chestCopiesSpec.pre6 enc Try.prog Try.f6 Rows.chestCopiesRow.domain false) (Rows.chestCopiesSpec.post enc Try.prog Try.f6 false true false false) := by
  refine returnsInHanded_of_change (C := Try.checked) base.own started (by kernel_rfl) Try.func6
    (ChangeSpec.witness6 (enc := enc) (C := Try.checked) false ⟨#[], #[.slice none 0 0, .slice none 0 0], []⟩ 8 (by kernel_rfl) (by kernel_rfl) (by kernel_rfl) (by kernel_rfl)) ?_
  intro W bs args ds gs before hval0 hW _ _
  have hval : ∀ (j : Nat) t v, Try.f6.params[j]? = some t → args[j]? = some v → Value.okWide Try.prog W .any bs t v := hval0
  have hW' : DataW.Whole enc Try.prog Try.f6.params.toList Rows.chestCopiesSpec.vars false W args.toList ds gs before := hW
  obtain ⟨p, q, hA0, hV, rfl, _, _⟩ := hW
  have hA : DataW.TrodAll enc Try.prog W 0 (fun _ => true) true Try.f6.params.toList args.toList ds p := hA0
  rw [Try.params6] at hA hval
  obtain ⟨v0, vs0, d0, ds0, p0, q0, hargs, rfl, rfl, h0, r0⟩ := trodAll_cons hA
  obtain ⟨v1, vs1, d1, ds1, p1, q1, rfl, rfl, rfl, h1, r1⟩ := trodAll_cons r0
  obtain ⟨rfl, rfl, rfl⟩ := trodAll_nil r1
  obtain rfl : args = #[v0, v1] := by cases args; simp_all
  obtain ⟨rfl, rfl⟩ := trodVars_none hV
  obtain ⟨A0, k0, c0, F0, rfl, b0, m0, n0, w0⟩ := base.open_introws 4 Try.underlying22 Try.underlying28 (by kernel_rfl) (by kernel_rfl) rfl (by omega) (by intro j f hj; rcases j with _ | _ | _ | _ | j <;> simp at hj <;> (subst hj; exact Try.underlying3)) (hval 0 22 v0 rfl rfl) h0
  obtain ⟨A1, k1, c1, F1, rfl, b1, m1, n1, w1⟩ := base.open_introws 4 Try.underlying22 Try.underlying28 (by kernel_rfl) (by kernel_rfl) rfl (by omega) (by intro j f hj; rcases j with _ | _ | _ | _ | j <;> simp at hj <;> (subst hj; exact Try.underlying3)) (hval 1 22 v1 rfl rfl) h1
  clear hA0 hval0
  refine (walk W A0 k0 c0 F0 n0 b0 m0 w0 A1 k1 c1 F1 n1 b1 m1 w1).mono fun e W' ⟨he, hb⟩ => ?_
  subst he
  exact ⟨_, rfl, base.law_post base.laid (by kernel_rfl) rfl rfl Try.underlying4 hW' rfl rfl rfl hb⟩

theorem over : Rows.chestCopiesRow.holds Try.pinned (OpenSpec.ofChange Rows.chestCopiesSpec) :=
  OpenClaim.holds_of_wide 6 Try.f6 rfl rfl rfl rfl rfl rfl rfl ⟨rfl, rfl, rfl, rfl, rfl⟩ rfl rfl rfl rfl rfl (by kernel_rfl) Try.func6 (by kernel_rfl)
    (of_decide_eq_true (by kernel_rfl)) (by unfold Func.isWrapper; first | (rw [if_pos (by decide +kernel)]; kernel_rfl) | (rw [if_neg (by decide +kernel)]; exact ⟨rfl, rfl⟩))
    (fun os started H enc _ => lifted os started H enc)

theorem proved : Rows.ChestCopiesSaid := over
#print axioms proved
end Go.Proofs.Ytknkcdhdfojifaa.chestCopies
