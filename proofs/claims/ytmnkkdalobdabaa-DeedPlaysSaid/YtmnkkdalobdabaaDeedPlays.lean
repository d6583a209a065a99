/-
  DeedPlays: deeds answer every sequence of calls as a list does.
-/
import Derived.Test.YtmnkkdalobdabaaDeedN
import Derived.Test.YtmnkkdalobdabaaDeedP
import Derived.Test.YtmnkkdalobdabaaStructs
import Derived.Test.YtmnkkdalobdabaaBase2
namespace Go.Proofs.Ytmnkkdalobdabaa.deedPlays
open Go.ChangeShapes Go.WideShapes Go.ChangeAt Go.RowKit
open dd rk
open base (ret_bool ret_int made up Blk Only Nums IntRows below_drewN)
set_option linter.unusedVariables false
set_option linter.unusedSimpArgs false

set_option maxRecDepth 100000 in
set_option maxHeartbeats 2000000 in
theorem walk_no (w : World) (A : Option Addr) (m c : Nat) (hm : m ≤ 9223372036854775807) (h : 100 < m) :
    Calls Try.prog 3 #[.slice A m c] w fun e w' => e = .returned (.bool true) ∧ Below w.heap.size w w' := by
  have N := Lib.hid (new_any w)
  have AW := Lib.hid (fun ws => awake_any ws)
  go_enter Try.func3, Try.ntmps3
  go_wp2_with fail
  refine N.out.mono ?_
  rintro e w1 ⟨rfl, -, hb1⟩
  have B1 := Lib.hid hb1
  clear hb1
  go_wp2_with fail
  refine (AW.out _).mono ?_
  rintro e w2 ⟨rfl, hb2⟩
  have B2 := Lib.hid (up B1.out hb2 B1.out.size)
  clear hb2
  go_wp2_with fail
  go_ret
  exact ⟨rfl, B2.out⟩

set_option maxRecDepth 100000 in
set_option maxHeartbeats 8000000 in
theorem walk_yes (w : World) (A : Option Addr) (m c : Nat) (F : Nat → Nat → Int) (h1 : IntRows w A m 3 F) (hm : m ≤ 100) (hc : m ≤ c) (hcm : c ≤ 9223372036854775807) :
    Calls Try.prog 3 #[.slice A m c] w fun e w' => e = .returned (.bool true) ∧ Below w.heap.size w w' := by
  have N := Lib.hid (new_any w)
  have AW := Lib.hid (fun ws => awake_any ws)
  have NN := Lib.hid h1
  clear h1
  go_enter Try.func3, Try.ntmps3
  go_wp2_with fail
  refine N.out.mono ?_
  rintro e w1 ⟨rfl, hd1, hb1⟩
  have hm2 := made w1 (.cells #[.slice none 0 0, .int .i64 1] 28)
  have D2 := Lib.hid (hd1.below hm2)
  have B2 := Lib.hid (up hb1 hm2 hb1.size)
  have BX2 := Lib.hid (Blk.new w1 28 #[.slice none 0 0, .int .i64 1])
  have G1 := Lib.hid hb1.size
  have G0 := Lib.hid (show w.heap.size < w1.heap.size from hd1.lt)
  clear hd1 hb1 hm2 N
  go_wp2_with fail
  generalize w1.alloc (.cells #[.slice none 0 0, .int .i64 1] 28) = w2 at *
  go_loopw [24] (fun i wr => ∃ (k : Nat) (W : World) (L : List D) (nx : Int) (Ax : Option Addr) (cx : Nat), W = wr ∧ k ≤ m ∧ i = .int .i64 k ∧ Blk wr w1.heap.size 28 #[.slice Ax L.length cx, .int .i64 nx] ∧ DAt wr w.heap.size w.heap.size L nx ∧ rk.Own E3 wr w.heap.size 45 (.slice Ax L.length cx) L ∧ Below w.heap.size w wr ∧ L.length ≤ k ∧ nx ≤ k + 1 ∧ Inv L nx) (fun i _ => m - (intOf i).toNat)
  case atStart => exact ⟨0, _, [], 1, none, 0, rfl, by omega, rfl, BX2.out, D2.out, rk.Own.nil _ _ _, B2.out, by simp, by omega, Inv.nil⟩
  case round =>
  obtain ⟨k, w3, L, nx, Ax, cx, rfl, hk, rfl, hbx, hd, ho, hb, hll, hn1, hinv⟩ := hrel
  have BX3 := Lib.hid hbx
  have D3 := Lib.hid hd
  have O3 := Lib.hid ho
  have B3 := Lib.hid hb
  have IV := Lib.hid hinv
  have hn0 : 1 ≤ nx := hinv.1
  have x0 := hbx.cell 0
  have x1 := hbx.cell 1
  have LW := Lib.hid (fun ws (h : Below w3.heap.size w3 ws) => (show Lay E3 ws Ax L from by
    obtain ⟨A', c', e, h2, _⟩ := O3.out.open_
    injection e with q1 q2 q3
    subst q1
    exact h2.below h))
  clear hinv
  by_cases hkm : k < m
  · obtain ⟨b, off, rfl, _, hcell⟩ := (base.IntRows.keep NN.out hb) (by omega)
    have e0 := hcell k hkm 0 (by omega)
    have e1 := hcell k hkm 1 (by omega)
    have e2 := hcell k hkm 2 (by omega)
    rw [Nat.add_zero] at e0
    clear hcell hbx hd ho hb
    generalize F k 0 = k0 at *
    generalize F k 1 = k1 at *
    generalize F k 2 = k2 at *
    have hm4 := made w3 (.cells #[.int .i64 k0, .int .i64 k1, .int .i64 k2] 30)
    have M4 := Lib.hid hm4
    have BO4 := Lib.hid (Blk.new w3 30 #[.int .i64 k0, .int .i64 k1, .int .i64 k2])
    have BX4 := Lib.hid (BX3.out.below hm4 BX3.out.lt)
    have ZR := Lib.hid hm4.size
    have LT := Lib.hid BX3.out.lt
    clear hm4 x0 x1
    go_wp2_with fail
    generalize w3.alloc (.cells #[.int .i64 k0, .int .i64 k1, .int .i64 k2] 30) = w4 at *
    have KX := Lib.hid (fun ws (h : Below w4.heap.size w4 ws) => (show ws.cell? ⟨w3.heap.size, 2, none⟩ = some (.int .i64 k2) ∧ ws.cell? ⟨w1.heap.size, 0, none⟩ = some (.slice Ax L.length cx) ∧ ws.cell? ⟨w1.heap.size, 1, none⟩ = some (.int .i64 nx) from ⟨(BO4.out.below h BO4.out.lt).cell 2, (BX4.out.below h BX4.out.lt).cell 0, (BX4.out.below h BX4.out.lt).cell 1⟩))
    have TS := Lib.hid (fun ws (h : Below w4.heap.size w4 ws) => (show Below w3.heap.size w3 ws from up M4.out h ZR.out))
    have MY := Lib.hid (fun ws (h : Below w4.heap.size w4 ws) => may_any w.heap.size w.heap.size L nx k2 ws (D3.out.below (TS.out ws h)) (by omega))
    have RM := Lib.hid (fun ws (h : Below w4.heap.size w4 ws) => rmay_any Ax cx L nx k2 ws (LW.out ws (TS.out ws h)) (by omega))
    have BV := Lib.hid ((Below.refl w4.heap.size w4).drew)
    generalize may L k2 = mz at *
    refine wp_region_held_drew (S := (fun ws => ws.cell? ⟨w3.heap.size, 2, none⟩ = some (.int .i64 k2) ∧ ws.cell? ⟨w1.heap.size, 0, none⟩ = some (.slice Ax L.length cx) ∧ ws.cell? ⟨w1.heap.size, 1, none⟩ = some (.int .i64 nx))) (by kernel_rfl) (KX.out _ BV.out) (fun hHeld => ?_)
    refine wpAnyH_take (i := 0) (v := ?_) rfl (by kernel_rfl) (by kernel_rfl) (by kernel_rfl) (fun _ _ _ h => h) (Or.inl ⟨by rfl, ?_⟩) (by assumption) ?_
    rotate_left
    · (intro w hSw; (try dsimp only at hSw); first | (go_simp; done) | (go_simp; with_reducible rfl))
    simp only [Act.put, List.getElem_toArray, List.getElem_cons_zero, List.getElem_cons_succ, List.setIfInBounds_toArray, List.set_cons_zero, List.set_cons_succ]
    refine wpAnyH_take (i := 1) (v := ?_) rfl (by kernel_rfl) (by kernel_rfl) (by kernel_rfl) (fun _ _ _ h => h) (Or.inl ⟨by rfl, ?_⟩) (by assumption) ?_
    rotate_left
    · (intro w hSw; (try dsimp only at hSw); first | (go_simp; done) | (go_simp; with_reducible rfl))
    simp only [Act.put, List.getElem_toArray, List.getElem_cons_zero, List.getElem_cons_succ, List.setIfInBounds_toArray, List.set_cons_zero, List.set_cons_succ]
    refine wpAnyH_take (i := 2) (v := ?_) rfl (by kernel_rfl) (by kernel_rfl) (by kernel_rfl) (fun _ _ _ h => h) (Or.inl ⟨by rfl, ?_⟩) (by assumption) ?_
    rotate_left
    · (intro w hSw; (try dsimp only at hSw); first | (go_simp; done) | (go_simp; with_reducible rfl))
    simp only [Act.put, List.getElem_toArray, List.getElem_cons_zero, List.getElem_cons_succ, List.setIfInBounds_toArray, List.set_cons_zero, List.set_cons_succ]
    refine wpAnyH_take (i := 4) (v := ?_) rfl (by kernel_rfl) (by kernel_rfl) (by kernel_rfl) (fun _ _ _ h => h) (Or.inl ⟨by rfl, ?_⟩) (by assumption) ?_
    rotate_left
    · (intro w hSw; (try dsimp only at hSw); first | (go_simp; done) | (go_simp; with_reducible rfl))
    simp only [Act.put, List.getElem_toArray, List.getElem_cons_zero, List.getElem_cons_succ, List.setIfInBounds_toArray, List.set_cons_zero, List.set_cons_succ]
    refine wpAnyH_take (i := 5) (v := ?_) rfl (by kernel_rfl) (by kernel_rfl) (by kernel_rfl) (fun _ _ _ h => h) (Or.inl ⟨by rfl, ?_⟩) (by assumption) ?_
    rotate_left
    · (intro w hSw; (try dsimp only at hSw); first | (go_simp; done) | (go_simp; with_reducible rfl))
    simp only [Act.put, List.getElem_toArray, List.getElem_cons_zero, List.getElem_cons_succ, List.setIfInBounds_toArray, List.set_cons_zero, List.set_cons_succ]
    refine wpAnyH_take (i := 6) (v := ?_) rfl (by kernel_rfl) (by kernel_rfl) (by kernel_rfl) (fun _ _ _ h => h) (Or.inl ⟨by rfl, ?_⟩) (by assumption) ?_
    rotate_left
    · (intro w hSw; (try dsimp only at hSw); first | (go_simp; done) | (go_simp; with_reducible rfl))
    simp only [Act.put, List.getElem_toArray, List.getElem_cons_zero, List.getElem_cons_succ, List.setIfInBounds_toArray, List.set_cons_zero, List.set_cons_succ]
    refine wpAnyH_ready (rs := [3]) (by kernel_rfl) (by simp) ?_
    refine AllReadyH.cons rfl (fun K hK => ?_) AllReadyH.nil
    go_simp
    go_wp2_with (go_at_call 9; refine (MY.out _ BV.out).mono ?_; rintro e w5 ⟨rfl, hb5⟩)
    have B5 := Lib.hid (up BV.out hb5 BV.out.size)
    refine hK.out _ _ (KX.out _ B5.out) (fun hH1 => ?_)
    clear hK K hHeld hb5
    refine wpAnyH_ready (rs := [7]) (by kernel_rfl) (by simp) ?_
    refine AllReadyH.cons rfl (fun K hK => ?_) AllReadyH.nil
    go_simp
    go_wp2_with (go_at_call 10; refine (RM.out _ B5.out).mono ?_; rintro e w6 ⟨rfl, hb6⟩)
    have B6 := Lib.hid (up B5.out hb6 B5.out.size)
    refine hK.out _ _ (KX.out _ B6.out) (fun hH2 => ?_)
    clear hK K hH1 hb6
    refine wpAnyH_take (i := 8) (v := ?_) rfl (by kernel_rfl) (by kernel_rfl) (by kernel_rfl) (fun _ _ _ h => h) (Or.inl ⟨by rfl, ?_⟩) (by assumption) ?_
    rotate_left
    · (intro w hSw; (try dsimp only at hSw); first | (go_simp; done) | (go_simp; with_reducible rfl))
    simp only [Act.put, List.getElem_toArray, List.getElem_cons_zero, List.getElem_cons_succ, List.setIfInBounds_toArray, List.set_cons_zero, List.set_cons_succ]
    refine wpAnyH_done (by kernel_rfl) ?_ _
    clear hH2 MY RM
    have T6 := Lib.hid (TS.out _ B6.out)
    have B7 := Lib.hid (up B3.out T6.out B3.out.size)
    have SP := Lib.hid (step_any Ax cx L nx k0 k1 k2 w.heap.size w.heap.size w6 (D3.out.below T6.out) (O3.out.below T6.out) (by omega) ⟨by omega, by omega⟩ (B7.out.size))
    have SZ := Lib.hid (step_size (L, nx) k0 k1 k2)
    have IV2 := Lib.hid (IV.out.step k0 k1 k2)
    have BX6 := Lib.hid (BX4.out.below B6.out BX4.out.lt)
    obtain ⟨o2, x0, x1⟩ := KX.out _ B6.out
    have bo := BO4.out.below B6.out BO4.out.lt
    have o0 := bo.cell 0
    have o1 := bo.cell 1
    clear bo IV KX TS LW
    generalize stepS (L, nx) k0 k1 k2 = r at *
    obtain ⟨L2, n2⟩ := r
    dsimp only at SZ IV2
    go_wp2_with fail
    refine SP.out.mono ?_
    rintro e w8 ⟨v8, rfl, hd8, ho8, hb8, ht8⟩
    obtain ⟨A8, c8, rfl, -⟩ := ho8.open_
    have BX8 := Lib.hid (ht8.blk BX6.out (show w1.heap.size ≠ w.heap.size by have := G1.out; have := G0.out; omega) (by decide))
    have B8 := Lib.hid ((B7.out.mono (Nat.le_refl _)).trans hb8)
    have r0 := BX8.out.cell 0
    have r1 := BX8.out.cell 1
    have f0 := BX8.out.free 0
    have f1 := BX8.out.free 1
    have K8 := Lib.hid (blk2 BX8.out (.slice A8 L2.length c8) (.int .i64 n2))
    have O8 := Lib.hid (own2 ho8 BX8.out (by decide) (.slice A8 L2.length c8) (.int .i64 n2))
    have D8 := Lib.hid (hd8.set2 BX8.out (by decide) (by decide) (.slice A8 L2.length c8) (.int .i64 n2))
    have B9 := Lib.hid (below2 B8.out (r := w1.heap.size) G1.out (.slice A8 L2.length c8) (.int .i64 n2))
    have k0_ := K8.out.cell 0
    have k1_ := K8.out.cell 1
    have hsz := SZ.out
    have SA := Lib.hid (same_any A8 c8 L2 n2 w.heap.size w.heap.size _ D8.out (by
      obtain ⟨A', c', e, h2, _⟩ := O8.out.open_
      injection e with q1 q2 q3
      subst q1
      exact h2) (by omega))
    clear hd8 ho8 hb8 ht8 e0 e1 e2 o0 o1 o2 x0 x1 SP
    go_wp2_with fail
    refine SA.out.mono ?_
    rintro e w9 ⟨rfl, hb9⟩
    have K9 := Lib.hid (K8.out.below hb9 K8.out.lt)
    have O9 := Lib.hid (O8.out.below hb9)
    have D9 := Lib.hid (D8.out.below hb9)
    have B10 := Lib.hid (up B9.out hb9 B9.out.size)
    clear hb9 r0 r1 f0 f1 k0_ k1_ SA
    go_wp2_with fail
    refine ⟨⟨k + 1, _, L2, n2, A8, c8, rfl, by omega, by go_num, K9.out, D9.out, O9.out, B10.out, by omega, by omega, IV2.out⟩, by simp [intOf]; omega⟩
  · obtain rfl : k = m := by omega
    clear hbx hd ho hb
    have RR := Lib.hid (rright_any Ax cx L nx w3 (LW.out _ (Below.refl _ _)) (by omega) true ⟨fun _ => IV.out.right (by omega), fun _ => rfl⟩)
    go_wp2_with fail
    refine RR.out.mono ?_
    rintro e w4 ⟨rfl, hb4⟩
    have B4 := Lib.hid (up B3.out hb4 B3.out.size)
    clear hb4
    go_wp2_with fail
    refine (AW.out _).mono ?_
    rintro e w5 ⟨rfl, hb5⟩
    have B5 := Lib.hid (up B4.out hb5 B4.out.size)
    clear hb5
    go_wp2_with fail
    go_ret
    exact ⟨rfl, B5.out⟩

theorem walk (w : World) (A : Option Addr) (m c : Nat) (F : Nat → Nat → Int) (h1 : IntRows w A m 3 F) (hc : m ≤ c) (hm : c ≤ maxLen) (hw : ∀ i, i < m → ∀ j, j < 3 → -9223372036854775808 ≤ F i j ∧ F i j ≤ 9223372036854775807) :
    Calls Try.prog 3 #[.slice A m c] w fun e w' => e = .returned (.bool true) ∧ Below w.heap.size w w' := by
  unfold maxLen at hm
  by_cases q : 100 < m
  · exact walk_no w A m c (by omega) q
  · exact walk_yes w A m c F h1 (by omega) hc (by omega)

set_option maxRecDepth 100000 in
theorem lifted (os : Os) (started : os.Started) (H : Type) (enc : TypeId × Value → H) :
    ReturnsInHanded {} Try.checked os 3 .any (Rows.deedPlaysSpec.pre6 enc Try.prog Try.f3 Rows.deedPlaysRow.domain false) (Rows.deedPlaysSpec.post enc Try.prog Try.f3 false true false false) := by
  refine returnsInHanded_of_change (C := Try.checked) base.own started (by kernel_rfl) Try.func3
    (ChangeSpec.witness6 (enc := enc) (C := Try.checked) false ⟨#[], #[.slice none 0 0], []⟩ 8 (by kernel_rfl) (by kernel_rfl) (by kernel_rfl) (by kernel_rfl)) ?_
  intro W bs args ds gs before hval0 hW _ _
  have hval : ∀ (j : Nat) t v, Try.f3.params[j]? = some t → args[j]? = some v → Value.okWide Try.prog W .any bs t v := hval0
  have hW' : DataW.Whole enc Try.prog Try.f3.params.toList Rows.deedPlaysSpec.vars false W args.toList ds gs before := hW
  obtain ⟨p, q, hA0, hV, rfl, _, _⟩ := hW
  have hA : DataW.TrodAll enc Try.prog W 0 (fun _ => true) true Try.f3.params.toList args.toList ds p := hA0
  rw [Try.params3] at hA hval
  obtain ⟨v0, vs0, d0, ds0, p0, q0, hargs, rfl, rfl, h0, r0⟩ := trodAll_cons hA
  obtain ⟨rfl, rfl, rfl⟩ := trodAll_nil r0
  obtain rfl : args = #[v0] := by cases args; simp_all
  obtain ⟨rfl, rfl⟩ := trodVars_none hV
  obtain ⟨A0, k0, c0, F0, rfl, b0, m0, n0, w0⟩ := base.open_introws 3 Try.underlying22 Try.underlying30 (by kernel_rfl) (by kernel_rfl) rfl (by omega) (by intro j f hj; rcases j with _ | _ | _ | j <;> simp at hj <;> (subst hj; exact Try.underlying3)) (hval 0 22 v0 rfl rfl) h0
  clear hA0 hval0
  refine (walk W A0 k0 c0 F0 n0 b0 m0 w0).mono fun e W' ⟨he, hb⟩ => ?_
  subst he
  exact ⟨_, rfl, base.law_post base.laid (by kernel_rfl) rfl rfl Try.underlying4 hW' rfl rfl rfl hb⟩

theorem over : Rows.deedPlaysRow.holds Try.pinned (OpenSpec.ofChange Rows.deedPlaysSpec) :=
  OpenClaim.holds_of_wide 3 Try.f3 rfl rfl rfl rfl rfl rfl rfl ⟨rfl, rfl, rfl, rfl, rfl⟩ rfl rfl rfl rfl rfl (by kernel_rfl) Try.func3 (by kernel_rfl)
    (of_decide_eq_true (by kernel_rfl)) (by unfold Func.isWrapper; first | (rw [if_pos (by decide +kernel)]; kernel_rfl) | (rw [if_neg (by decide +kernel)]; exact ⟨rfl, rfl⟩))
    (fun os started H enc _ => lifted os started H enc)

theorem proved : Rows.DeedPlaysSaid := over
#print axioms proved
end Go.Proofs.Ytmnkkdalobdabaa.deedPlays
