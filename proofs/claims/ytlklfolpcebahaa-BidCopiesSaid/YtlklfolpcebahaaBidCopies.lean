/-
  BidCopies: a copy tells the same, and goes on by itself.
-/
import Derived.Test.YtlklfolpcebahaaAucY
import Derived.Test.YtlklfolpcebahaaStructs
import Derived.Test.YtlklfolpcebahaaBase2
namespace Go.Proofs.Ytlklfolpcebahaa.bidCopies
open Go.ChangeShapes Go.WideShapes Go.ChangeAt Go.RowKit
open bb rk
open base (ret_bool ret_int made up Blk Only Nums IntRows below_drewN)
set_option linter.unusedVariables false
set_option linter.unusedSimpArgs false

set_option maxRecDepth 100000 in
set_option maxHeartbeats 2000000 in
theorem walk_no (w : World) (A A' : Option Addr) (m c m' c' : Nat) (hm : m ≤ 9223372036854775807) (hm' : m' ≤ 9223372036854775807) (h : 60 < m ∨ 60 < m') :
    Calls Try.prog 6 #[.slice A m c, .slice A' m' c'] w fun e w' => e = .returned (.bool true) ∧ Below w.heap.size w w' := by
  have N := Lib.hid (new_any w)
  have AW := Lib.hid (fun ws => bd.awake_any ws)
  by_cases q : 60 < m
  · clear h
    go_enter Try.func6, Try.ntmps6
    go_wp2_with fail
    refine N.out.mono ?_
    rintro e w1 ⟨rfl, -, hb1⟩
    have B1 := Lib.hid hb1
    clear hb1
    go_wp2_with fail
    refine (AW.out _).mono ?_
    rintro e w2 ⟨rfl, hb2⟩
    have B2 := Lib.hid (up B1.out hb2 B1.out.size)
    clear hb2
    go_wp2_with fail
    go_ret
    exact ⟨rfl, B2.out⟩
  · have q' : 60 < m' := by omega
    clear h
    go_enter Try.func6, Try.ntmps6
    go_wp2_with fail
    refine N.out.mono ?_
    rintro e w1 ⟨rfl, -, hb1⟩
    have B1 := Lib.hid hb1
    clear hb1
    go_wp2_with fail
    refine (AW.out _).mono ?_
    rintro e w2 ⟨rfl, hb2⟩
    have B2 := Lib.hid (up B1.out hb2 B1.out.size)
    clear hb2
    go_wp2_with fail
    go_ret
    exact ⟨rfl, B2.out⟩

set_option maxRecDepth 100000 in
set_option maxHeartbeats 8000000 in
theorem walk_yes (w : World) (A : Option Addr) (m c : Nat) (F : Nat → Nat → Int) (h1 : IntRows w A m 5 F) (A' : Option Addr) (m' c' : Nat) (F' : Nat → Nat → Int) (h2 : IntRows w A' m' 5 F') (hm : m ≤ 60) (hm' : m' ≤ 60) :
    Calls Try.prog 6 #[.slice A m c, .slice A' m' c'] w fun e w' => e = .returned (.bool true) ∧ Below w.heap.size w w' := by
  have N := Lib.hid (new_any w)
  have AW := Lib.hid (fun ws => bd.awake_any ws)
  have NN := Lib.hid h1
  have MM := Lib.hid h2
  clear h1 h2
  go_enter Try.func6, Try.ntmps6
  go_wp2_with fail
  refine N.out.mono ?_
  rintro e w1 ⟨rfl, hd1, hb1⟩
  have hm2 := made w1 (.cells #[.slice none 0 0, .int .i64 1] 28)
  have D2 := Lib.hid (hd1.below hm2)
  have B2 := Lib.hid (up hb1 hm2 hb1.size)
  have BX2 := Lib.hid (Blk.new w1 28 #[.slice none 0 0, .int .i64 1])
  have G1 := Lib.hid hb1.size
  have G0 := Lib.hid (show w.heap.size < w1.heap.size from hd1.lt)
  clear hd1 hb1 hm2 N
  go_wp2_with fail
  generalize w1.alloc (.cells #[.slice none 0 0, .int .i64 1] 28) = w2 at *
  go_loopw [35] (fun i wr => ∃ (k : Nat) (W : World) (L : List D) (nx : Int) (Ax : Option Addr) (cx : Nat), W = wr ∧ k ≤ m ∧ i = .int .i64 k ∧ Blk wr w1.heap.size 28 #[.slice Ax L.length cx, .int .i64 nx] ∧ DAt wr w.heap.size w.heap.size L nx ∧ rk.Own E7 wr w.heap.size 52 (.slice Ax L.length cx) L ∧ Below w.heap.size w wr ∧ nx ≤ k + 1 ∧ Inv L nx) (fun i _ => m - (intOf i).toNat)
  case atStart => exact ⟨0, _, [], 1, none, 0, rfl, by omega, rfl, BX2.out, D2.out, rk.Own.nil _ _ _, B2.out, by omega, Inv.nil⟩
  case round =>
  obtain ⟨k, w3, L, nx, Ax, cx, rfl, hk, rfl, hbx, hd, ho, hb, hn1, hinv⟩ := hrel
  have hn0 : 1 ≤ nx := hinv.1
  have hll : L.length ≤ 64 := hinv.2.2.2
  have IV := Lib.hid hinv
  clear hinv
  have BX3 := Lib.hid hbx
  have D3 := Lib.hid hd
  have O3 := Lib.hid ho
  have B3 := Lib.hid hb
  have x0 := hbx.cell 0
  have x1 := hbx.cell 1
  by_cases hkm : k < m
  · obtain ⟨b, off, rfl, _, hcell⟩ := (base.IntRows.keep NN.out hb) (by omega)
    have e0 := hcell k hkm 0 (by omega)
    have e1 := hcell k hkm 1 (by omega)
    have e2 := hcell k hkm 2 (by omega)
    have e3 := hcell k hkm 3 (by omega)
    have e4 := hcell k hkm 4 (by omega)
    rw [Nat.add_zero] at e0
    clear hcell hbx hd ho hb
    generalize F k 0 = k0 at *
    generalize F k 1 = k1 at *
    generalize F k 2 = k2 at *
    generalize F k 3 = k3 at *
    generalize F k 4 = k4 at *
    have hm4 := made w3 (.cells #[.int .i64 k0, .int .i64 k1, .int .i64 k2, .int .i64 k3, .int .i64 k4] 30)
    have SP := Lib.hid (step_any Ax cx L nx k0 k1 k2 k3 k4 w.heap.size w.heap.size w.heap.size (w3.alloc (.cells #[.int .i64 k0, .int .i64 k1, .int .i64 k2, .int .i64 k3, .int .i64 k4] 30)) (D3.out.below hm4) (O3.out.below hm4) (by omega) ⟨by omega, by omega⟩ (Nat.le_trans B3.out.size hm4.size) (Nat.le_trans B3.out.size hm4.size) IV.out.2.2.1)
    have SZ := Lib.hid (step_next L nx k0 k1 k2 k3 k4)
    have B4 := Lib.hid (up B3.out hm4 B3.out.size)
    have BX4 := Lib.hid (BX3.out.below hm4 BX3.out.lt)
    have bo := Blk.new w3 30 #[.int .i64 k0, .int .i64 k1, .int .i64 k2, .int .i64 k3, .int .i64 k4]
    have o0 := bo.cell 0
    have o1 := bo.cell 1
    have o2 := bo.cell 2
    have o3 := bo.cell 3
    have o4 := bo.cell 4
    clear hm4 bo x0 x1
    have x0 := BX4.out.cell 0
    have x1 := BX4.out.cell 1
    have IV2 := Lib.hid (IV.out.step k0 k1 k2 k3 k4)
    generalize stepS (L, nx) k0 k1 k2 k3 k4 = r at *
    obtain ⟨L2, n2⟩ := r
    dsimp only at SZ IV2
    go_wp2_with fail
    generalize w3.alloc (.cells #[.int .i64 k0, .int .i64 k1, .int .i64 k2, .int .i64 k3, .int .i64 k4] 30) = w4 at *
    refine SP.out.mono ?_
    rintro e w5 ⟨v5, rfl, hd5, ho5, hb5, ht5⟩
    obtain ⟨A5, c5, rfl, -⟩ := ho5.open_
    have BX5 := Lib.hid (ht5.blk BX4.out (show w1.heap.size ≠ w.heap.size by have := G1.out; have := G0.out; omega) (by decide))
    have B5 := Lib.hid ((B4.out.mono (Nat.le_refl _)).trans hb5)
    have r0 := BX5.out.cell 0
    have r1 := BX5.out.cell 1
    have f0 := BX5.out.free 0
    have f1 := BX5.out.free 1
    have K5 := Lib.hid (blk2 BX5.out (.slice A5 L2.length c5) (.int .i64 n2))
    have O6 := Lib.hid (own2 ho5 BX5.out (by decide) (.slice A5 L2.length c5) (.int .i64 n2))
    have D6 := Lib.hid (hd5.set2 BX5.out (by decide) (by decide) (.slice A5 L2.length c5) (.int .i64 n2))
    have B6 := Lib.hid (below2 B5.out (r := w1.heap.size) G1.out (.slice A5 L2.length c5) (.int .i64 n2))
    clear hd5 ho5 hb5 ht5 e0 e1 e2 e3 e4 o0 o1 o2 o3 o4 x0 x1 SP
    have hsz := SZ.out
    go_wp2_with fail
    refine ⟨⟨k + 1, _, L2, n2, A5, c5, rfl, by omega, by go_num, K5.out, D6.out, O6.out, B6.out, by omega, IV2.out⟩, by simp [intOf]; omega⟩
  · obtain rfl : k = m := by omega
    have CP := Lib.hid (copy_any w.heap.size w.heap.size L nx w3 hd (by omega))
    clear hbx hd ho hb x0 x1
    go_wp2_with fail
    refine CP.out.mono ?_
    rintro e w4 ⟨v4, rfl, ⟨g, rfl, hd4⟩, hb4⟩
    have GL := Lib.hid hd4.lt
    have Z4 := Lib.hid hb4.size
    have B4 := Lib.hid hb4
    have BX4 := Lib.hid (BX3.out.below hb4 BX3.out.lt)
    have O4 := Lib.hid (O3.out.below hb4)
    have hm5 := made w4 (.cells #[.slice Ax L.length cx, .int .i64 nx] 28)
    have D5 := Lib.hid (hd4.below hm5)
    have O5 := Lib.hid (O4.out.below hm5)
    have B5 := Lib.hid (up hb4 hm5 hb4.size)
    have BY5 := Lib.hid (Blk.new w4 28 #[.slice Ax L.length cx, .int .i64 nx])
    have x0 := BX4.out.cell 0
    have x1 := BX4.out.cell 1
    clear hd4 hb4 hm5 CP
    go_wp2_with fail
    generalize w4.alloc (.cells #[.slice Ax L.length cx, .int .i64 nx] 28) = w5 at *
    clear x0 x1
    go_loopw [54] (fun i wr => ∃ (k : Nat) (W : World) (L2 : List D) (n2 : Int) (Ay : Option Addr) (cy : Nat), W = wr ∧ k ≤ m' ∧ i = .int .i64 k ∧ Blk wr w4.heap.size 28 #[.slice Ay L2.length cy, .int .i64 n2] ∧ DAt wr w3.heap.size g L2 n2 ∧ rk.Own E7 wr w.heap.size 52 (.slice Ay L2.length cy) L2 ∧ Below w3.heap.size w3 wr ∧ n2 ≤ 61 + k ∧ Inv L2 n2) (fun i _ => m' - (intOf i).toNat)
    case atStart => exact ⟨0, _, L, nx, Ax, cx, rfl, by omega, rfl, BY5.out, D5.out, O5.out, B5.out, by omega, IV.out⟩
    case round =>
    obtain ⟨j, w6, L2, n2, Ay, cy, rfl, hj, rfl, hby, hd6, ho6, hb6, hn3, hinv⟩ := hrel
    have hn2 : 1 ≤ n2 := hinv.1
    have hl2 : L2.length ≤ 64 := hinv.2.2.2
    have IW := Lib.hid hinv
    clear hinv
    have BY6 := Lib.hid hby
    have D6 := Lib.hid hd6
    have O6 := Lib.hid ho6
    have B6 := Lib.hid hb6
    have y0 := hby.cell 0
    have y1 := hby.cell 1
    by_cases hjm : j < m'
    · obtain ⟨b, off, rfl, _, hcell⟩ := (base.IntRows.keep MM.out (up B3.out hb6 B3.out.size)) (by omega)
      have e0 := hcell j hjm 0 (by omega)
      have e1 := hcell j hjm 1 (by omega)
      have e2 := hcell j hjm 2 (by omega)
      have e3 := hcell j hjm 3 (by omega)
      have e4 := hcell j hjm 4 (by omega)
      rw [Nat.add_zero] at e0
      clear hcell hby hd6 ho6 hb6
      generalize F' j 0 = k0 at *
      generalize F' j 1 = k1 at *
      generalize F' j 2 = k2 at *
      generalize F' j 3 = k3 at *
      generalize F' j 4 = k4 at *
      have hm7 := made w6 (.cells #[.int .i64 k0, .int .i64 k1, .int .i64 k2, .int .i64 k3, .int .i64 k4] 30)
      have SP := Lib.hid (step_any Ay cy L2 n2 k0 k1 k2 k3 k4 w.heap.size w3.heap.size g (w6.alloc (.cells #[.int .i64 k0, .int .i64 k1, .int .i64 k2, .int .i64 k3, .int .i64 k4] 30)) (D6.out.below hm7) (O6.out.below hm7) (by omega) ⟨by omega, by omega⟩ (Nat.le_trans B6.out.size hm7.size) (Nat.le_trans B3.out.size (Nat.le_trans B6.out.size hm7.size)) IW.out.2.2.1)
      have SZ := Lib.hid (step_next L2 n2 k0 k1 k2 k3 k4)
      have B7 := Lib.hid (up B6.out hm7 B6.out.size)
      have BY7 := Lib.hid (BY6.out.below hm7 BY6.out.lt)
      have bo := Blk.new w6 30 #[.int .i64 k0, .int .i64 k1, .int .i64 k2, .int .i64 k3, .int .i64 k4]
      have o0 := bo.cell 0
      have o1 := bo.cell 1
      have o2 := bo.cell 2
      have o3 := bo.cell 3
      have o4 := bo.cell 4
      clear hm7 bo y0 y1
      have y0 := BY7.out.cell 0
      have y1 := BY7.out.cell 1
      have IW2 := Lib.hid (IW.out.step k0 k1 k2 k3 k4)
      generalize stepS (L2, n2) k0 k1 k2 k3 k4 = r at *
      obtain ⟨L5, n5⟩ := r
      dsimp only at SZ IW2
      go_wp2_with fail
      generalize w6.alloc (.cells #[.int .i64 k0, .int .i64 k1, .int .i64 k2, .int .i64 k3, .int .i64 k4] 30) = w7 at *
      refine SP.out.mono ?_
      rintro e w8 ⟨v8, rfl, hd8, ho8, hb8, ht8⟩
      obtain ⟨A8, c8, rfl, -⟩ := ho8.open_
      have BY8 := Lib.hid (ht8.blk BY7.out (show w4.heap.size ≠ g by have := GL.out; omega) (by decide))
      have B8 := Lib.hid (B7.out.trans hb8)
      have r0 := BY8.out.cell 0
      have r1 := BY8.out.cell 1
      have f0 := BY8.out.free 0
      have f1 := BY8.out.free 1
      have K8 := Lib.hid (blk2 BY8.out (.slice A8 L5.length c8) (.int .i64 n5))
      have O9 := Lib.hid (own2 ho8 BY8.out (by decide) (.slice A8 L5.length c8) (.int .i64 n5))
      have D9 := Lib.hid (hd8.set2 BY8.out (by decide) (by decide) (.slice A8 L5.length c8) (.int .i64 n5))
      have B9 := Lib.hid (below2 B8.out (r := w4.heap.size) Z4.out (.slice A8 L5.length c8) (.int .i64 n5))
      clear hd8 ho8 hb8 ht8 e0 e1 e2 e3 e4 o0 o1 o2 o3 o4 y0 y1 SP
      have hsz := SZ.out
      go_wp2_with fail
      refine ⟨⟨j + 1, _, L5, n5, A8, c8, rfl, by omega, by go_num, K8.out, D9.out, O9.out, B9.out, by omega, IW2.out⟩, by simp [intOf]; omega⟩
    · obtain rfl : j = m' := by omega
      have bx6 := BX3.out.below hb6 BX3.out.lt
      have x0 := bx6.cell 0
      have x1 := bx6.cell 1
      have SC := Lib.hid (same_any Ax cx L nx w.heap.size w.heap.size w6 (D3.out.below hb6) (by
        obtain ⟨A', c', e, h2, _⟩ := (O3.out.below hb6).open_
        injection e with q1 q2 q3
        subst q1
        exact h2) IV.out)
      clear hby hd6 ho6 hb6 bx6
      go_wp2_with fail
      refine SC.out.mono ?_
      rintro e w7 ⟨rfl, hb7⟩
      have B7 := Lib.hid (up B6.out hb7 B6.out.size)
      have by7 := BY6.out.below hb7 BY6.out.lt
      clear x0 x1 y0 y1
      have y0 := by7.cell 0
      have y1 := by7.cell 1
      have SD := Lib.hid (same_any Ay cy L2 n2 w3.heap.size g w7 (D6.out.below hb7) (by
        obtain ⟨A', c', e, h2, _⟩ := (O6.out.below hb7).open_
        injection e with q1 q2 q3
        subst q1
        exact h2) IW.out)
      clear hb7 SC by7
      go_wp2_with fail
      refine SD.out.mono ?_
      rintro e w8 ⟨rfl, hb8⟩
      have B8 := Lib.hid (up (up B3.out B7.out B3.out.size) hb8 (Nat.le_trans B3.out.size B7.out.size))
      clear hb8 SD y0 y1
      go_wp2_with fail
      refine (AW.out _).mono ?_
      rintro e w9 ⟨rfl, hb9⟩
      have B9 := Lib.hid (up B8.out hb9 B8.out.size)
      clear hb9
      go_wp2_with fail
      go_ret
      exact ⟨rfl, B9.out⟩

theorem walk (w : World) (A : Option Addr) (m c : Nat) (F : Nat → Nat → Int) (h1 : IntRows w A m 5 F) (hc : m ≤ c) (hm : c ≤ maxLen) (hw : ∀ i, i < m → ∀ j, j < 5 → -9223372036854775808 ≤ F i j ∧ F i j ≤ 9223372036854775807) (A' : Option Addr) (m' c' : Nat) (F' : Nat → Nat → Int) (h1' : IntRows w A' m' 5 F') (hc' : m' ≤ c') (hm' : c' ≤ maxLen) (hw' : ∀ i, i < m' → ∀ j, j < 5 → -9223372036854775808 ≤ F' i j ∧ F' i j ≤ 9223372036854775807) :
    Calls Try.prog 6 #[.slice A m c, .slice A' m' c'] w fun e w' => e = .returned (.bool true) ∧ Below w.heap.size w w' := by
  unfold maxLen at hm hm'
  by_cases q : 60 < m ∨ 60 < m'
  · exact walk_no w A A' m c m' c' (by omega) (by omega) q
  · exact walk_yes w A m c F h1 A' m' c' F' h1' (by omega) (by omega)

set_option maxRecDepth 100000 in
theorem lifted (os : Os) (started : os.Started) (H : Type) (enc : TypeId × Value → H) :
    ReturnsInHanded {} Try.checked os 6 .any (Rows.bidCopiesSpec.pre6 enc Try.prog Try.f6 Rows.bidCopiesRow.domain false) (Rows.bidCopiesSpec.post enc Try.prog Try.f6 false true false false) := by
  refine returnsInHanded_of_change (C := Try.checked) base.own started (by kernel_rfl) Try.func6
    (ChangeSpec.witness6 (enc := enc) (C := Try.checked) false ⟨#[], #[.slice none 0 0, .slice none 0 0], []⟩ 8 (by kernel_rfl) (by kernel_rfl) (by kernel_rfl) (by kernel_rfl)) ?_
  intro W bs args ds gs before hval0 hW _ _
  have hval : ∀ (j : Nat) t v, Try.f6.params[j]? = some t → args[j]? = some v → Value.okWide Try.prog W .any bs t v := hval0
  have hW' : DataW.Whole enc Try.prog Try.f6.params.toList Rows.bidCopiesSpec.vars false W args.toList ds gs before := hW
  obtain ⟨p, q, hA0, hV, rfl, _, _⟩ := hW
  have hA : DataW.TrodAll enc Try.prog W 0 (fun _ => true) true Try.f6.params.toList args.toList ds p := hA0
  rw [Try.params6] at hA hval
  obtain ⟨v0, vs0, d0, ds0, p0, q0, hargs, rfl, rfl, h0, r0⟩ := trodAll_cons hA
  obtain ⟨v1, vs1, d1, ds1, p1, q1, rfl, rfl, rfl, h1, r1⟩ := trodAll_cons r0
  obtain ⟨rfl, rfl, rfl⟩ := trodAll_nil r1
  obtain rfl : args = #[v0, v1] := by cases args; simp_all
  obtain ⟨rfl, rfl⟩ := trodVars_none hV
  obtain ⟨A0, k0, c0, F0, rfl, b0, m0, n0, w0⟩ := base.open_introws 5 Try.underlying22 Try.underlying30 (by kernel_rfl) (by kernel_rfl) rfl (by omega) (by intro j f hj; rcases j with _ | _ | _ | _ | _ | j <;> simp at hj <;> (subst hj; exact Try.underlying3)) (hval 0 22 v0 rfl rfl) h0
  obtain ⟨A1, k1, c1, F1, rfl, b1, m1, n1, w1⟩ := base.open_introws 5 Try.underlying22 Try.underlying30 (by kernel_rfl) (by kernel_rfl) rfl (by omega) (by intro j f hj; rcases j with _ | _ | _ | _ | _ | j <;> simp at hj <;> (subst hj; exact Try.underlying3)) (hval 1 22 v1 rfl rfl) h1
  clear hA0 hval0
  refine (walk W A0 k0 c0 F0 n0 b0 m0 w0 A1 k1 c1 F1 n1 b1 m1 w1).mono fun e W' ⟨he, hb⟩ => ?_
  subst he
  exact ⟨_, rfl, base.law_post base.laid (by kernel_rfl) rfl rfl Try.underlying4 hW' rfl rfl rfl hb⟩

theorem over : Rows.bidCopiesRow.holds Try.pinned (OpenSpec.ofChange Rows.bidCopiesSpec) :=
  OpenClaim.holds_of_wide 6 Try.f6 rfl rfl rfl rfl rfl rfl rfl ⟨rfl, rfl, rfl, rfl, rfl⟩ rfl rfl rfl rfl rfl (by kernel_rfl) Try.func6 (by kernel_rfl)
    (of_decide_eq_true (by kernel_rfl)) (by unfold Func.isWrapper; first | (rw [if_pos (by decide +kernel)]; kernel_rfl) | (rw [if_neg (by decide +kernel)]; exact ⟨rfl, rfl⟩))
    (fun os started H enc _ => lifted os started H enc)

theorem proved : Rows.BidCopiesSaid := over
#print axioms proved
end Go.Proofs.Ytlklfolpcebahaa.bidCopies
