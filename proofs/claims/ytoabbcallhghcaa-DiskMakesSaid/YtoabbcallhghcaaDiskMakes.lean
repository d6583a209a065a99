/-
  DiskMakes: there is a disk just of sizes that the document allows, with noughts.
-/
import Derived.Test.YtoabbcallhghcaaDkG
namespace Go.Proofs.Ytoabbcallhghcaa.diskMakes
open Go.ChangeShapes Go.WideShapes Go.ChangeAt Go.RowKit
open dk mk
open base (ret_bool ret_int made up Blk Only)
set_option linter.unusedVariables false
set_option linter.unusedSimpArgs false

set_option maxRecDepth 100000 in
set_option maxHeartbeats 2000000 in
theorem walk_mid (w : World) (n size : Int) (h1 : 300 < n) (h2 : n ≤ 4096) :
    Calls Try.prog 5 #[.int .i64 n, .int .i64 size] w fun e w' => e = .returned (.bool true) ∧ Below w.heap.size w w' := by
  have AW := Lib.hid (awake_any w)
  have t1 : decide (n > 300) = true := decide_eq_true h1
  have t2 : decide (n ≤ 4096) = true := decide_eq_true h2
  go_enter Try.func5, Try.ntmps5
  go_wp2_with fail
  refine AW.out.mono ?_
  rintro e w2 ⟨rfl, hb2⟩
  have B2 := Lib.hid hb2
  clear hb2
  go_wp2_with fail
  go_ret
  exact ⟨rfl, B2.out⟩
set_option maxRecDepth 100000 in
set_option maxHeartbeats 2000000 in
theorem walk_bad (w : World) (n size : Int) (h : NewBad n size) (hn : ¬ (300 < n ∧ n ≤ 4096)) :
    Calls Try.prog 5 #[.int .i64 n, .int .i64 size] w fun e w' => e = .returned (.bool true) ∧ Below w.heap.size w w' := by
  have AW := Lib.hid (awake_any w)
  have NB := Lib.hid (new_bad n size w h)
  have key : (decide (n < 1) = true) ∨ (decide (n < 1) = false ∧ decide (n > 4096) = true) ∨ (decide (n < 1) = false ∧ decide (n > 4096) = false ∧ decide (size < 16) = true) ∨ (decide (n < 1) = false ∧ decide (n > 4096) = false ∧ decide (size < 16) = false ∧ decide (size > 4096) = true) := by
    unfold NewBad at h
    simp only [decide_eq_true_eq, decide_eq_false_iff_not]
    omega
  have mid : (decide (n > 300) = false) ∨ (decide (n > 300) = true ∧ decide (n ≤ 4096) = false) := by
    simp only [decide_eq_true_eq, decide_eq_false_iff_not]
    omega
  clear h hn
  rcases mid with m1 | ⟨m1, m2⟩ <;> rcases key with q1 | ⟨q1, q2⟩ | ⟨q1, q2, q3⟩ | ⟨q1, q2, q3, q4⟩ <;> (
    go_enter Try.func5, Try.ntmps5
    go_wp2_with fail
    refine NB.out.mono ?_
    rintro e w1 ⟨rfl, rfl⟩
    go_wp2_with fail
    refine AW.out.mono ?_
    rintro e w2 ⟨rfl, hb2⟩
    have B2 := Lib.hid hb2
    clear hb2
    go_wp2_with fail
    go_ret
    exact ⟨rfl, B2.out⟩)
set_option maxRecDepth 100000 in
set_option maxHeartbeats 4000000 in
theorem walk_ok (w : World) (n size : Nat) (h1 : 1 ≤ n) (h2 : n ≤ 300) (h3 : 16 ≤ size) (h4 : size ≤ 4096) :
    Calls Try.prog 5 #[.int .i64 n, .int .i64 size] w fun e w' => e = .returned (.bool true) ∧ Below w.heap.size w w' := by
  have NW := Lib.hid (new_any n size w h1 (by omega) h3 h4)
  have t0 : decide ((n : Int) > 300) = false := decide_eq_false (by omega)
  have t1 : decide ((n : Int) < 1) = false := decide_eq_false (by omega)
  have t2 : decide ((n : Int) > 4096) = false := decide_eq_false (by omega)
  have t3 : decide ((size : Int) < 16) = false := decide_eq_false (by omega)
  have t4 : decide ((size : Int) > 4096) = false := decide_eq_false (by omega)
  go_enter Try.func5, Try.ntmps5
  go_wp2_with fail
  refine NW.out.mono ?_
  rintro e w1 ⟨g, s, m, rfl, hd1, hb1⟩
  have H1 := Lib.hid hd1
  have B1 := Lib.hid hb1
  have S1 := Lib.hid (show Calls Try.prog 22 #[.pointer (some ⟨g, 0, none⟩)] w1 fun e w' => e = .returned (.int .i64 (n : Nat)) ∧ w1 = w' from sectors_any H1.out)
  have S2 := Lib.hid (show Calls Try.prog 23 #[.pointer (some ⟨g, 0, none⟩)] w1 fun e w' => e = .returned (.int .i64 (size : Nat)) ∧ w1 = w' from size_any H1.out)
  have S3 := Lib.hid (show Calls Try.prog 24 #[.pointer (some ⟨g, 0, none⟩)] w1 fun e w' => e = .returned (.int .i64 0) ∧ w1 = w' from commands_any H1.out)
  have S4 := Lib.hid (show Calls Try.prog 16 #[.pointer (some ⟨g, 0, none⟩)] w1 fun e w' => e = .returned (.bool false) ∧ w1 = w' from down_any H1.out)
  clear hd1 hb1 NW
  go_wp2_with fail
  refine S1.out.mono ?_
  rintro e w' ⟨rfl, rfl⟩
  go_wp2_with fail
  refine S2.out.mono ?_
  rintro e w' ⟨rfl, rfl⟩
  go_wp2_with fail
  refine S3.out.mono ?_
  rintro e w' ⟨rfl, rfl⟩
  go_wp2_with fail
  refine S4.out.mono ?_
  rintro e w' ⟨rfl, rfl⟩
  go_wp2_with fail
  clear S1 S2 S3 S4
  go_loopw [62] (fun i wr => ∃ (k : Nat) (W : World), W = wr ∧ k ≤ n ∧ i = .int .i64 k ∧ Below w1.heap.size w1 wr) (fun i _ => n - (RowKit.intOf i).toNat)
  case atStart => exact ⟨0, _, rfl, by omega, rfl, Below.refl _ _⟩
  case round =>
  obtain ⟨k, w2, rfl, hk, rfl, hb2⟩ := hrel
  have B2 := Lib.hid hb2
  have H2 := Lib.hid (H1.out.below hb2)
  clear hb2
  by_cases hkn : k < n
  · have RD := Lib.hid (read_any H2.out k (wf_of (by omega) (by omega)))
    go_wp2_with fail
    refine RD.out.mono ?_
    rintro e w3 ⟨v3, rfl, o3, sm3, b3⟩
    have eE : (D0 n size).readE k = 0 := by unfold DD.readE DD.has D0; simp; omega
    have eV : (D0 n size).readV k = List.replicate size 0 := by unfold DD.readV DD.has D0; simp; omega
    rw [eE]
    rw [eV] at o3 sm3
    clear eE eV RD
    have B3 := Lib.hid (up B2.out b3 B2.out.size)
    obtain ⟨A3, c3, rfl, y3, -⟩ := o3.lay
    have Y3 := Lib.hid y3
    have SM := Lib.hid sm3
    clear o3 b3 y3 sm3
    have hmb := fun W => run_make_row' (P := Try.prog) 29 5 (.int .u8 0) 1 Try.underlying29 bytes.info_u8 rfl .i64 .i64 size (by omega) (by omega) W
    have LR := Lib.hid (show (List.replicate size (0 : Nat)).length = size by rw [List.length_replicate])
    have CV := Lib.hid (fun W (h : Below w3.heap.size w3 W) => bytes.conv_any W A3 c3 (List.replicate size 0) (Y3.out.below h) SM.out)
    rw [LR.out] at CV
    rw [LR.out]
    have D4 := Lib.hid ((Below.refl w3.heap.size w3).drew)
    go_upto_region 12 with fail
    refine wp_region_held_drew (S := fun W => (convert 29 9 (.slice A3 size c3)).run Try.prog W = .ok (.string (bytes.str (List.replicate size 0))) W) (by kernel_rfl) (CV.out _ D4.out) (fun hHeld => ?_)
    generalize w3.drew = w4 at *
    refine wpAnyH_take (i := 0) (v := ?_) rfl (by kernel_rfl) (by kernel_rfl) (by kernel_rfl) (fun _ _ _ h => h) (Or.inl ⟨by rfl, ?_⟩) (by assumption) ?_
    rotate_left
    · (intro w hSw; (try dsimp only at hSw); first | (go_simp; done) | (go_simp; with_reducible rfl))
    simp only [Act.put, List.getElem_toArray, List.getElem_cons_zero, List.getElem_cons_succ, List.setIfInBounds_toArray, List.set_cons_zero, List.set_cons_succ]
    refine wpAnyH_take (i := 1) (v := ?_) rfl (by kernel_rfl) (by kernel_rfl) (by kernel_rfl) (fun _ _ _ h => h) (Or.inl ⟨by rfl, ?_⟩) (by assumption) ?_
    rotate_left
    · (intro w hSw; (try dsimp only at hSw); first | (go_simp; done) | (go_simp; with_reducible rfl))
    simp only [Act.put, List.getElem_toArray, List.getElem_cons_zero, List.getElem_cons_succ, List.setIfInBounds_toArray, List.set_cons_zero, List.set_cons_succ]
    refine wpAnyH_take (i := 2) (v := ?_) rfl (by kernel_rfl) (by kernel_rfl) (by kernel_rfl) (fun _ _ _ h => h) (Or.inl ⟨by rfl, ?_⟩) (by assumption) ?_
    rotate_left
    · (intro w hSw; (try dsimp only at hSw); first | (go_simp; done) | (go_simp; with_reducible rfl))
    simp only [Act.put, List.getElem_toArray, List.getElem_cons_zero, List.getElem_cons_succ, List.setIfInBounds_toArray, List.set_cons_zero, List.set_cons_succ]
    refine wpAnyH_take (i := 3) (v := ?_) rfl (by kernel_rfl) (by kernel_rfl) (by kernel_rfl) (fun _ _ _ h => h) (Or.inl ⟨by rfl, ?_⟩) (by assumption) ?_
    rotate_left
    · (intro w hSw; (try dsimp only at hSw); first | (go_simp; done) | (go_simp; with_reducible rfl))
    simp only [Act.put, List.getElem_toArray, List.getElem_cons_zero, List.getElem_cons_succ, List.setIfInBounds_toArray, List.set_cons_zero, List.set_cons_succ]
    refine wpAnyH_take (i := 4) (v := ?_) rfl (by kernel_rfl) (by kernel_rfl) (by kernel_rfl) (fun _ _ _ h => h) (Or.inl ⟨by rfl, ?_⟩) (by assumption) ?_
    rotate_left
    · (intro w hSw; (try dsimp only at hSw); first | (go_simp; done) | (go_simp; with_reducible rfl))
    simp only [Act.put, List.getElem_toArray, List.getElem_cons_zero, List.getElem_cons_succ, List.setIfInBounds_toArray, List.set_cons_zero, List.set_cons_succ]
    refine wpAnyH_take (i := 5) (v := ?_) rfl (by kernel_rfl) (by kernel_rfl) (by kernel_rfl) (fun _ _ _ h => h) (Or.inl ⟨by rfl, ?_⟩) (by assumption) ?_
    rotate_left
    · (intro w hSw; (try dsimp only at hSw); first | (go_simp; done) | (go_simp; with_reducible rfl))
    simp only [Act.put, List.getElem_toArray, List.getElem_cons_zero, List.getElem_cons_succ, List.setIfInBounds_toArray, List.set_cons_zero, List.set_cons_succ]
    refine wpAnyH_ready (rs := [6]) (by kernel_rfl) (by simp) ?_
    refine AllReadyH.cons rfl (fun K hK => ?_) AllReadyH.nil
    go_simp
    have m5 := made w4 (.cells (madeCells #[.int .u8 0] size) 5)
    have l5 := bytes.lay_lit w4 (List.replicate size 0) 5 (0, 0)
    rw [← mcells_u8] at l5
    have B5 := Lib.hid (up D4.out m5 D4.out.size)
    have hc5 := bytes.conv_any (w4.alloc (.cells (madeCells #[.int .u8 0] size) 5)) (some ⟨w4.heap.size, 0, none⟩) size (List.replicate size 0) l5 SM.out
    rw [LR.out] at hc5
    clear m5 l5
    generalize w4.alloc (.cells (madeCells #[.int .u8 0] size) 5) = w5 at *
    refine hK.out _ _ (CV.out _ B5.out) (fun hHeld2 => ?_)
    clear hK K hHeld
    refine wpAnyH_ready (rs := [7]) (by kernel_rfl) (by simp) ?_
    refine AllReadyH.cons rfl (fun K hK => ?_) AllReadyH.nil
    go_simp
    refine hK.out _ _ (CV.out _ B5.out) (fun hHeld3 => ?_)
    clear hK K hHeld2
    refine wpAnyH_take (i := 8) (v := ?_) rfl (by kernel_rfl) (by kernel_rfl) (by kernel_rfl) (fun _ _ _ h => h) (Or.inl ⟨by rfl, ?_⟩) (by assumption) ?_
    rotate_left
    · (intro w hSw; (try dsimp only at hSw); first | (go_simp; done) | (go_simp; with_reducible rfl))
    simp only [Act.put, List.getElem_toArray, List.getElem_cons_zero, List.getElem_cons_succ, List.setIfInBounds_toArray, List.set_cons_zero, List.set_cons_succ]
    refine wpAnyH_take (i := 9) (v := ?_) rfl (by kernel_rfl) (by kernel_rfl) (by kernel_rfl) (fun _ _ _ h => h) (Or.inl ⟨by rfl, ?_⟩) (by assumption) ?_
    rotate_left
    · (intro w hSw; (try dsimp only at hSw); first | (go_simp; done) | (go_simp; with_reducible rfl))
    simp only [Act.put, List.getElem_toArray, List.getElem_cons_zero, List.getElem_cons_succ, List.setIfInBounds_toArray, List.set_cons_zero, List.set_cons_succ]
    refine wpAnyH_done (by kernel_rfl) ?_ _
    have B6 := Lib.hid (up B3.out B5.out B3.out.size)
    clear hmb hc5 hHeld3 CV
    go_wp2_with fail
    exact ⟨⟨k + 1, _, rfl, by omega, by go_num, B6.out⟩, by simp [RowKit.intOf]; omega⟩
  · obtain rfl : k = n := by omega
    have AW := Lib.hid (awake_any w2)
    go_wp2_with fail
    refine AW.out.mono ?_
    rintro e w3 ⟨rfl, hb3⟩
    have B3 := Lib.hid hb3
    clear hb3
    go_wp2_with fail
    go_ret
    exact ⟨rfl, up (up B1.out B2.out B1.out.size) B3.out (Nat.le_trans B1.out.size B2.out.size)⟩

theorem walk (w : World) (n : Int) (w0 : (Lit.int .i64 n).wf = true) (size : Int) (w1 : (Lit.int .i64 size).wf = true) :
    Calls Try.prog 5 #[.int .i64 n, .int .i64 size] w fun e w' => e = .returned (.bool true) ∧ Below w.heap.size w w' := by
  by_cases hm : 300 < n ∧ n ≤ 4096
  · exact walk_mid w n size hm.1 hm.2
  · by_cases h : NewBad n size
    · exact walk_bad w n size h hm
    · unfold NewBad at h
      obtain ⟨a, rfl⟩ : ∃ a : Nat, n = a := ⟨n.toNat, by omega⟩
      obtain ⟨b, rfl⟩ : ∃ b : Nat, size = b := ⟨size.toNat, by omega⟩
      exact walk_ok w a b (by omega) (by omega) (by omega) (by omega)

set_option maxRecDepth 100000 in
theorem lifted (os : Os) (started : os.Started) (H : Type) (enc : TypeId × Value → H) :
    ReturnsInHanded {} Try.checked os 5 .any (Rows.diskMakesSpec.pre6 enc Try.prog Try.f5 Rows.diskMakesRow.domain false) (Rows.diskMakesSpec.post enc Try.prog Try.f5 false true false false) := by
  refine returnsInHanded_of_change (C := Try.checked) base.own started (by kernel_rfl) Try.func5
    (ChangeSpec.witness6 (enc := enc) (C := Try.checked) false ⟨#[], #[.int .i64 0, .int .i64 0], []⟩ 8 (by kernel_rfl) (by kernel_rfl) (by kernel_rfl) (by kernel_rfl)) ?_
  intro W bs args ds gs before hval0 hW _ _
  have hval : ∀ (j : Nat) t v, Try.f5.params[j]? = some t → args[j]? = some v → Value.okWide Try.prog W .any bs t v := hval0
  have hW' : DataW.Whole enc Try.prog Try.f5.params.toList Rows.diskMakesSpec.vars false W args.toList ds gs before := hW
  obtain ⟨p, q, hA0, hV, rfl, _, _⟩ := hW
  have hA : DataW.TrodAll enc Try.prog W 0 (fun _ => true) true Try.f5.params.toList args.toList ds p := hA0
  rw [Try.params5] at hA hval
  obtain ⟨v0, vs0, d0, ds0, p0, q0, hargs, rfl, rfl, h0, r0⟩ := trodAll_cons hA
  obtain ⟨v1, vs1, d1, ds1, p1, q1, rfl, rfl, rfl, h1, r1⟩ := trodAll_cons r0
  obtain ⟨rfl, rfl, rfl⟩ := trodAll_nil r1
  obtain rfl : args = #[v0, v1] := by cases args; simp_all
  obtain ⟨rfl, rfl⟩ := trodVars_none hV
  obtain ⟨a0, rfl, rfl, rfl, w0⟩ := open_int Try.underlying3 (hval 0 3 v0 rfl rfl) h0
  obtain ⟨a1, rfl, rfl, rfl, w1⟩ := open_int Try.underlying3 (hval 1 3 v1 rfl rfl) h1
  clear hA0 hval0
  refine (walk W a0 w0 a1 w1).mono fun e W' ⟨he, hb⟩ => ?_
  subst he
  exact ⟨_, rfl, base.law_post base.laid (by kernel_rfl) rfl rfl Try.underlying4 hW' rfl rfl rfl hb⟩

theorem over : Rows.diskMakesRow.holds Try.pinned (OpenSpec.ofChange Rows.diskMakesSpec) :=
  OpenClaim.holds_of_wide 5 Try.f5 rfl rfl rfl rfl rfl rfl rfl ⟨rfl, rfl, rfl, rfl, rfl⟩ rfl rfl rfl rfl rfl (by kernel_rfl) Try.func5 (by kernel_rfl)
    (of_decide_eq_true (by kernel_rfl)) (by unfold Func.isWrapper; first | (rw [if_pos (by decide +kernel)]; kernel_rfl) | (rw [if_neg (by decide +kernel)]; exact ⟨rfl, rfl⟩))
    (fun os started H enc _ => lifted os started H enc)

theorem proved : Rows.DiskMakesSaid := over
#print axioms proved
end Go.Proofs.Ytoabbcallhghcaa.diskMakes
