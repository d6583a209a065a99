/-
  RentPlays: rents answer every sequence of calls as a list does; the one that lapses first is told.
-/
import Derived.Test.YtmgfnhbhgmpchaaRtD
import Derived.Test.YtmgfnhbhgmpchaaRentC
import Derived.Test.YtmgfnhbhgmpchaaStructs
import Derived.Test.YtmgfnhbhgmpchaaBase2
namespace Go.Proofs.Ytmgfnhbhgmpchaa.rentPlays
open Go.ChangeShapes Go.WideShapes Go.ChangeAt Go.RowKit
open rn mk rk
open base (ret_bool ret_int made up Blk Only IntRows)
set_option linter.unusedVariables false
set_option linter.unusedSimpArgs false

set_option maxRecDepth 100000 in
set_option maxHeartbeats 2000000 in
theorem walk_no (w : World) (A : Option Addr) (m c : Nat) (hm : m ≤ 9223372036854775807) (h : 80 < m) :
    Calls Try.prog 3 #[.slice A m c] w fun e w' => e = .returned (.bool true) ∧ Below w.heap.size w w' := by
  have N := Lib.hid (new_any w)
  have AW := Lib.hid (fun ws => awake_any ws)
  go_enter Try.func3, Try.ntmps3
  go_wp2_with fail
  refine N.out.mono ?_
  rintro e w1 ⟨rfl, -, hb1⟩
  have B1 := Lib.hid hb1
  clear hb1 N
  go_wp2_with fail
  refine (AW.out _).mono ?_
  rintro e w2 ⟨rfl, hba⟩
  have BA := Lib.hid (up B1.out hba B1.out.size)
  clear hba
  go_wp2_with fail
  go_ret
  exact ⟨rfl, BA.out⟩
theorem wf_nth {m : Nat} {F : Nat → Nat → Int} (hw : ∀ i, i < m → ∀ j, j < 4 → -9223372036854775808 ≤ F i j ∧ F i j ≤ 9223372036854775807) {i : Nat} (hi : i < m) {j : Nat} (hj : j < 4) : (Lit.int .i64 (F i j)).wf = true := mk.wf_of (hw i hi j hj).1 (hw i hi j hj).2
set_option maxRecDepth 100000 in
set_option maxHeartbeats 8000000 in
theorem walk_yes (w : World) (A : Option Addr) (m c : Nat) (F : Nat → Nat → Int) (h1 : IntRows w A m 4 F) (hm : m ≤ 80) (hw : ∀ i, i < m → ∀ j, j < 4 → -9223372036854775808 ≤ F i j ∧ F i j ≤ 9223372036854775807) :
    Calls Try.prog 3 #[.slice A m c] w fun e w' => e = .returned (.bool true) ∧ Below w.heap.size w w' := by
  have N := Lib.hid (new_any w)
  have AW := Lib.hid (fun ws => awake_any ws)
  have NN := Lib.hid h1
  have HW := Lib.hid hw
  clear h1 hw
  go_enter Try.func3, Try.ntmps3
  go_wp2_with fail
  refine N.out.mono ?_
  rintro e w1 ⟨rfl, hr1, hb1⟩
  have R1 := Lib.hid hr1
  have B1 := Lib.hid hb1
  clear hr1 hb1 N
  go_wp2_with fail
  go_loopw [4, 23] (fun x i wr => ∃ (k : Nat) (W : World) (L : List R3) (cn : Nat), W = wr ∧ k ≤ m ∧ i = .int .i64 k ∧ RAt wr (w.heap.size + 1) w.heap.size (rn.look L) cn ∧ cn ≤ k ∧ rk.Own E3 wr w.heap.size 42 x L ∧ L.length ≤ k ∧ Gd L ∧ Sd L ∧ Wk L ∧ Mut w.heap.size w1 wr) (fun _ i _ => m - (intOf i).toNat)
  case atStart => exact ⟨0, _, [], 0, rfl, by omega, rfl, R1.out, by omega, rk.Own.nil _ _ _, by simp, fun d hd => (by cases hd), Sd.nil, fun d hd => (by cases hd), Only.refl _ _⟩
  case round =>
  obtain ⟨k, w2, L, cn, rfl, hk, rfl, hr, hcn, ho, hll, hg, hs, hwk, hmu⟩ := hrel
  have R2 := Lib.hid hr
  have O2 := Lib.hid ho
  have GD := Lib.hid hg
  have SD := Lib.hid hs
  have WK := Lib.hid hwk
  have M2 := Lib.hid hmu
  obtain ⟨Ax, cx, rfl, -⟩ := ho.open_
  have C2 := Lib.hid (show Below w.heap.size w w2 from B1.out.trans (hmu.to (Nat.le_refl _) B1.out.size))
  clear hr ho hg hmu hs hwk
  by_cases hkm : k < m
  · obtain ⟨b, off, rfl, _, hcell⟩ := (base.IntRows.keep NN.out C2.out) (by omega)
    have e0 := hcell k hkm 0 (by omega)
    have e1 := hcell k hkm 1 (by omega)
    have e2 := hcell k hkm 2 (by omega)
    have e3 := hcell k hkm 3 (by omega)
    rw [Nat.add_zero] at e0
    have WN := Lib.hid (wf_nth HW.out hkm (show 1 < 4 by omega))
    clear hcell
    generalize F k 0 = k0 at *
    generalize F k 1 = k1 at *
    generalize F k 2 = k2 at *
    generalize F k 3 = k3 at *
    have hm3 := made w2 (.cells #[.int .i64 k0, .int .i64 k1, .int .i64 k2, .int .i64 k3] 28)
    have R3_ := Lib.hid (R2.out.below hm3)
    have O3 := Lib.hid (rk.Own.below O2.out hm3)
    have M3 := Lib.hid (M2.out.then_ (Mut.of_below hm3))
    have HS := Lib.hid (Nat.le_trans C2.out.size hm3.size)
    have X3 := Lib.hid (Blk.new w2 28 #[.int .i64 k0, .int .i64 k1, .int .i64 k2, .int .i64 k3])
    clear hm3
    go_upto_region 8 with fail
    generalize w2.alloc (.cells #[.int .i64 k0, .int .i64 k1, .int .i64 k2, .int .i64 k3] 28) = w3 at *
    clear e0 e1 e2 e3
    have o0 := X3.out.cell 0
    have o1 := X3.out.cell 1
    have o2 := X3.out.cell 2
    have o3 := X3.out.cell 3
    have SP := Lib.hid (step_any Ax cx cn L k0 k1 k2 k3 w.heap.size (w.heap.size + 1) w.heap.size w3 R3_.out O3.out (by omega) HS.out (Nat.le_refl _) GD.out WN.out (by omega))
    have SG := Lib.hid (step_good GD.out k0 k1 k2 k3)
    have SS := Lib.hid (step_sd SD.out WK.out k0 k1 k2 k3 WN.out)
    generalize stepS L k0 k1 k2 k3 = L2 at *
    go_wp2_with fail
    refine SP.out.mono ?_
    rintro e w4 ⟨v4, c4, rfl, hr4, hc4, ho4, hm4⟩
    have R4 := Lib.hid hr4
    have O4 := Lib.hid ho4
    have M4 := Lib.hid (M3.out.then_ hm4)
    obtain ⟨A4, d4, rfl, -⟩ := ho4.open_
    clear hr4 ho4 hm4 SP o0 o1 o2 o3
    have hsz := SG.out.2
    have SA := Lib.hid (same_any R4.out (own_lay O4.out) SS.out.1 SS.out.2 SG.out.1 (c := d4) (by omega))
    go_wp2_with fail
    refine SA.out.mono ?_
    rintro e w5 ⟨rfl, hb5⟩
    have R5 := Lib.hid (R4.out.below hb5)
    have O5 := Lib.hid (rk.Own.below O4.out hb5)
    have M5 := Lib.hid (M4.out.then_ (Mut.of_below hb5))
    clear hb5 SA
    go_wp2_with fail
    refine ⟨⟨k + 1, _, L2, c4, rfl, by omega, by go_num, R5.out, by omega, O5.out, by omega, SG.out.1, SS.out.1, SS.out.2, M5.out⟩, by simp [intOf]; omega⟩
  · obtain rfl : k = m := by omega
    clear R1 B1 M2 R2 O2 NN HW
    go_wp2_with fail
    refine (AW.out _).mono ?_
    rintro e w3 ⟨rfl, hba⟩
    have BA := Lib.hid (up C2.out hba C2.out.size)
    clear hba
    go_wp2_with fail
    go_ret
    exact ⟨rfl, BA.out⟩
theorem walk (w : World) (A : Option Addr) (m c : Nat) (F : Nat → Nat → Int) (h1 : IntRows w A m 4 F) (hc : m ≤ c) (hm : c ≤ maxLen) (hw : ∀ i, i < m → ∀ j, j < 4 → -9223372036854775808 ≤ F i j ∧ F i j ≤ 9223372036854775807) :
    Calls Try.prog 3 #[.slice A m c] w fun e w' => e = .returned (.bool true) ∧ Below w.heap.size w w' := by
  unfold maxLen at hm
  by_cases q : 80 < m
  · exact walk_no w A m c (by omega) q
  · exact walk_yes w A m c F h1 (by omega) hw

set_option maxRecDepth 100000 in
theorem lifted (os : Os) (started : os.Started) (H : Type) (enc : TypeId × Value → H) :
    ReturnsInHanded {} Try.checked os 3 .any (Rows.rentPlaysSpec.pre6 enc Try.prog Try.f3 Rows.rentPlaysRow.domain false) (Rows.rentPlaysSpec.post enc Try.prog Try.f3 false true false false) := by
  refine returnsInHanded_of_change (C := Try.checked) base.own started (by kernel_rfl) Try.func3
    (ChangeSpec.witness6 (enc := enc) (C := Try.checked) false ⟨#[], #[.slice none 0 0], []⟩ 8 (by kernel_rfl) (by kernel_rfl) (by kernel_rfl) (by kernel_rfl)) ?_
  intro W bs args ds gs before hval0 hW _ _
  have hval : ∀ (j : Nat) t v, Try.f3.params[j]? = some t → args[j]? = some v → Value.okWide Try.prog W .any bs t v := hval0
  have hW' : DataW.Whole enc Try.prog Try.f3.params.toList Rows.rentPlaysSpec.vars false W args.toList ds gs before := hW
  obtain ⟨p, q, hA0, hV, rfl, _, _⟩ := hW
  have hA : DataW.TrodAll enc Try.prog W 0 (fun _ => true) true Try.f3.params.toList args.toList ds p := hA0
  rw [Try.params3] at hA hval
  obtain ⟨v0, vs0, d0, ds0, p0, q0, hargs, rfl, rfl, h0, r0⟩ := trodAll_cons hA
  obtain ⟨rfl, rfl, rfl⟩ := trodAll_nil r0
  obtain rfl : args = #[v0] := by cases args; simp_all
  obtain ⟨rfl, rfl⟩ := trodVars_none hV
  obtain ⟨A0, k0, c0, F0, rfl, b0, m0, n0, w0⟩ := base.open_introws 4 Try.underlying22 Try.underlying28 (by kernel_rfl) (by kernel_rfl) rfl (by omega) (by intro j f hj; rcases j with _ | _ | _ | _ | j <;> simp at hj <;> (subst hj; exact Try.underlying3)) (hval 0 22 v0 rfl rfl) h0
  clear hA0 hval0
  refine (walk W A0 k0 c0 F0 n0 b0 m0 w0).mono fun e W' ⟨he, hb⟩ => ?_
  subst he
  exact ⟨_, rfl, base.law_post base.laid (by kernel_rfl) rfl rfl Try.underlying4 hW' rfl rfl rfl hb⟩

theorem over : Rows.rentPlaysRow.holds Try.pinned (OpenSpec.ofChange Rows.rentPlaysSpec) :=
  OpenClaim.holds_of_wide 3 Try.f3 rfl rfl rfl rfl rfl rfl rfl ⟨rfl, rfl, rfl, rfl, rfl⟩ rfl rfl rfl rfl rfl (by kernel_rfl) Try.func3 (by kernel_rfl)
    (of_decide_eq_true (by kernel_rfl)) (by unfold Func.isWrapper; first | (rw [if_pos (by decide +kernel)]; kernel_rfl) | (rw [if_neg (by decide +kernel)]; exact ⟨rfl, rfl⟩))
    (fun os started H enc _ => lifted os started H enc)

theorem proved : Rows.RentPlaysSaid := over
#print axioms proved
end Go.Proofs.Ytmgfnhbhgmpchaa.rentPlays
