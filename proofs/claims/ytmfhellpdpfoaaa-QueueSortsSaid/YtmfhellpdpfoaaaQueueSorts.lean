/-
  QueueSorts: things that are popped till there are none come by their times, of one time in the order in which they were added.
-/
import Derived.Test.YtmfhellpdpfoaaaQuJ
import Derived.LoopTactic
namespace Go.Proofs.Ytmfhellpdpfoaaa.queueSorts
open Go.ChangeShapes Go.WideShapes Go.ChangeAt Go.RowKit
open base (law_post ret_bool ret_int made up Blk Only Nums)
open rk mk qu
set_option linter.unusedVariables false
set_option linter.unusedSimpArgs false

def vv : ByteArray := ⟨#[118]⟩
/-- what was added of the times up to k -/
def InQ (zs : List Int) (k : Nat) (M : List It) : Prop := ∀ x ∈ M, ∃ j : Nat, j < k ∧ x = ((j : Int) + 1, zs.getD j 0, vv)
theorem InQ.add {zs : List Int} {k : Nat} {M : List It} (h : InQ zs k M) : InQ zs (k + 1) (ins ((k : Int) + 1, zs.getD k 0, vv) M) := fun x hx => by
  rcases List.mem_cons.1 ((ins_perm _ _).mem_iff.1 hx) with rfl | hx
  · exact ⟨k, by omega, rfl⟩
  · obtain ⟨j, hj, e⟩ := h x hx
    exact ⟨j, by omega, e⟩
theorem cell_at {w w' : World} {A : Option Addr} {zs : List Int} (hn : Nums .i64 w A zs) (hb : Below w.heap.size w w') {k : Nat} (hk : k < zs.length) : ∃ b off, A = some ⟨b, off, none⟩ ∧ w'.cell? ⟨b, off + k, none⟩ = some (.int .i64 (zs.getD k 0)) := by
  obtain ⟨b, off, e, hl, hc⟩ := hn (by omega)
  exact ⟨b, off, e, (hb.cell (p := ⟨b, off + k, none⟩) hl).trans (hc k hk)⟩
set_option maxRecDepth 100000 in
set_option maxHeartbeats 4000000 in
theorem walk_long (w : World) (A : Option Addr) (c : Nat) (zs : List Int) (h : 150 < zs.length) (hc : zs.length ≤ c) (hm : c ≤ maxLen) :
    Calls Try.prog 7 #[.slice A zs.length c] w fun e w' => e = .returned (.bool true) ∧ Below w.heap.size w w' := by
  have N := Lib.hid (qnew w)
  have hz : zs.length ≤ 9223372036854775807 := by unfold maxLen at hm; omega
  have t1 : decide ((zs.length : Int) > 150) = true := decide_eq_true (by omega)
  clear hc hm
  go_enter Try.func7, Try.ntmps7
  go_wp2_with fail
  refine N.out.mono ?_
  rintro e w1 ⟨q, F, rfl, h1, b1, f1⟩
  have B1 := Lib.hid b1
  have AW := Lib.hid (awake_any w1)
  clear h1 b1 f1 N
  go_wp2_with fail
  refine AW.out.mono ?_
  rintro e w2 ⟨rfl, b2⟩
  have B2 := Lib.hid (up B1.out b2 B1.out.size)
  clear b2
  go_wp2_with fail
  go_ret
  exact ⟨rfl, B2.out⟩
set_option maxRecDepth 100000 in
set_option maxHeartbeats 8000000 in
theorem walk_short (w : World) (A : Option Addr) (c : Nat) (zs : List Int) (hn : Nums .i64 w A zs) (h : zs.length ≤ 150) :
    Calls Try.prog 7 #[.slice A zs.length c] w fun e w' => e = .returned (.bool true) ∧ Below w.heap.size w w' := by
  have N := Lib.hid (qnew w)
  have HN := Lib.hid hn
  have t1 : decide ((zs.length : Int) > 150) = false := decide_eq_false (by omega)
  clear hn
  go_enter Try.func7, Try.ntmps7
  go_wp2_with fail
  refine N.out.mono ?_
  rintro e w1 ⟨q, F, rfl, h1, b1, f1⟩
  have B1 := Lib.hid b1
  have F1 := Lib.hid f1
  have H1 := Lib.hid h1
  clear h1 b1 f1 N
  go_wp2_with fail
  clear t1
  go_loopw [32] (fun i wr => ∃ (k : Nat) (W : World) (F : Nat → Prop) (M : List It), W = wr ∧ k ≤ zs.length ∧ i = .int .i64 k ∧ QS F wr q M k ∧ M.length = k ∧ InQ zs k M ∧ Below w.heap.size w wr ∧ ∀ j, F j → w.heap.size ≤ j) (fun i _ => zs.length - (intOf i).toNat)
  case atStart => exact ⟨0, _, F, [], rfl, by omega, rfl, H1.out, rfl, (by intro x hx; cases hx), B1.out, F1.out⟩
  case round =>
  obtain ⟨k, w2, F2, M, rfl, hk, rfl, h2, hl2, hin, hb2, hf2⟩ := hrel
  clear H1 B1 F1
  have H2 := Lib.hid h2
  have B2 := Lib.hid hb2
  have F2_ := Lib.hid hf2
  have IN := Lib.hid hin
  have LN := Lib.hid hl2
  clear h2 hf2 hin hl2
  by_cases hkl : k < zs.length
  · obtain ⟨b, off, rfl, x0⟩ := cell_at HN.out hb2 hkl
    have AD := Lib.hid (qadd H2.out (by omega) (by rw [LN.out]; omega) (zs.getD k 0) ⟨#[118]⟩)
    have NX := Lib.hid IN.out.add
    generalize zs.getD k 0 = t at *
    clear hb2
    go_wp2_with fail
    refine AD.out.mono ?_
    rintro e w3 ⟨rfl, F3, h3, m3⟩
    have D3 := Lib.hid (Mv.to m3 B2.out.size F2_.out)
    have B3 := Lib.hid (B2.out.trans D3.out.1)
    have H3 := Lib.hid (show QS F3 w3 q (ins ((k : Int) + 1, t, vv) M) ((k + 1 : Nat) : Int) from h3)
    have L3 := Lib.hid (show (ins ((k : Int) + 1, t, vv) M).length = k + 1 by rw [(ins_perm _ _).length_eq, List.length_cons, LN.out])
    clear h3 m3 AD x0
    go_wp2_with fail
    refine ⟨⟨k + 1, _, F3, _, rfl, by omega, by go_num, H3.out, L3.out, NX.out, B3.out, D3.out.2⟩, by simp [intOf]; omega⟩
  · obtain rfl : k = zs.length := by omega
    clear hkl hb2
    go_wp2_with fail
    go_loopw [6, 7, 8] (fun la ln co wr => ∃ (W : World) (F : Nat → Prop) (M : List It) (l n2 : Int) (k : Nat), W = wr ∧ la = .int .i64 l ∧ ln = .int .i64 n2 ∧ co = .int .i64 k ∧ QS F wr q M zs.length ∧ k + M.length = zs.length ∧ InQ zs zs.length M ∧ (0 < k → ∀ x ∈ M, lt (n2, l, vv) x) ∧ Below w.heap.size w wr ∧ ∀ j, F j → w.heap.size ≤ j) (fun _ _ co _ => zs.length - (intOf co).toNat)
    case atStart => exact ⟨_, F2, M, 0, 0, 0, rfl, rfl, rfl, rfl, H2.out, by rw [LN.out]; omega, IN.out, fun h => absurd h (by omega), B2.out, F2_.out⟩
    case round =>
    obtain ⟨w4, F4, M4, la, n4, k2, rfl, rfl, rfl, rfl, h4, hl4, hin4, hlt4, hb4, hf4⟩ := hrel
    clear H2 B2 F2_ IN LN
    have H4 := Lib.hid h4
    have B4 := Lib.hid hb4
    have F4_ := Lib.hid hf4
    have LE := Lib.hid (qlen h4)
    cases M4 with
    | nil =>
      have hkz : k2 = zs.length := by simpa using hl4
      have te : ((k2 : Int) == (zs.length : Int)) = true := by rw [hkz]; simp
      have AW := Lib.hid (awake_any w4)
      rw [List.length_nil] at LE
      clear h4 hb4 hf4 hl4 hin4 hlt4 hkz
      go_wp2_with fail
      refine LE.out.mono ?_
      rintro e w5 ⟨rfl, rfl⟩
      go_wp2_with fail
      refine AW.out.mono ?_
      rintro e w5 ⟨rfl, b5⟩
      have B5 := Lib.hid (up B4.out b5 B4.out.size)
      clear b5
      go_wp2_with fail
      go_ret
      exact ⟨rfl, B5.out⟩
    | cons x M' =>
      obtain ⟨j, hj, ex⟩ := hin4 x (by simp)
      have FI := Lib.hid (qfirst h4)
      have SD := Lib.hid (List.pairwise_cons.1 h4.sd).1
      rw [List.length_cons] at hl4 LE
      have LN := Lib.hid (show k2 + 1 + M'.length = zs.length by omega)
      have IN := Lib.hid (show InQ zs zs.length M' from fun y hy => hin4 y (List.mem_cons_of_mem _ hy))
      have hk2 : k2 < zs.length := by omega
      have hlx : 0 < k2 → (la < x.2.1 ∨ (la = x.2.1 ∧ n4 < x.1)) := fun h => hlt4 h x (by simp)
      have hmz : M'.length ≤ 150 := by omega
      obtain ⟨b, off, rfl, x0⟩ := cell_at HN.out hb4 hj
      obtain ⟨d, hd⟩ : ∃ d, d = zs.getD j 0 := ⟨_, rfl⟩
      rw [← hd] at ex x0
      have HD := Lib.hid hd
      clear hd
      subst ex
      dsimp only at hlx FI
      have LT := Lib.hid (show 0 < k2 + 1 → ∀ y ∈ M', lt ((j : Int) + 1, d, vv) y from fun _ => SD.out)
      have HX := Lib.hid hlx
      have hz0 : b < w.heap.size := by
        obtain ⟨b', off', e, hl, _⟩ := HN.out (by omega)
        injection e with e
        injection e with e
        omega
      clear h4 hb4 hf4 hl4 hin4 hlt4 SD hlx
      go_wp2_with fail
      refine LE.out.mono ?_
      rintro e w5 ⟨rfl, rfl⟩
      have tg : decide (((M'.length + 1 : Nat) : Int) > 0) = true := decide_eq_true (by omega)
      clear LE
      go_wp2_with fail
      refine FI.out.mono ?_
      rintro e w5 ⟨rfl, b5⟩
      have H5 := Lib.hid (H4.out.below b5)
      have B5 := Lib.hid (up B4.out b5 B4.out.size)
      have PO := Lib.hid (qpop H5.out (now := d) (by dsimp only; omega) (by omega) (by omega))
      dsimp only at PO
      clear b5 H4 B4 FI tg x0
      go_wp2_with fail
      refine PO.out.mono ?_
      rintro e w6 ⟨rfl, F2, h6, m6⟩
      have D6 := Lib.hid (Mv.to m6 B5.out.size F4_.out)
      have B6 := Lib.hid (B5.out.trans D6.out.1)
      have F6 := Lib.hid D6.out.2
      have H2 := Lib.hid h6
      have x0 : w6.cell? ⟨b, off + j, none⟩ = some (.int .i64 d) := by
        rw [HD.out]
        obtain ⟨b', off', e, hc⟩ := cell_at HN.out B6.out hj
        injection e with e
        injection e with e1 e2
        rw [e1, e2]
        exact hc
      clear h6 m6 PO D6 B5 H5
      have ws : IntKind.i64.wrap ((j : Int) + 1 - 1) = (j : Int) := by rw [show (j : Int) + 1 - 1 = j by omega]; exact IntWalk.i64_in _ (by omega)
      have te : (d != d) = false := by simp
      have tn : ((j : Int) + 1 != (j : Int) + 1) = false := by simp
      have t1 : decide ((j : Int) + 1 < 1) = false := decide_eq_false (by omega)
      have t2 : decide ((j : Int) + 1 > (zs.length : Int)) = false := decide_eq_false (by omega)
      have t3 : decide (zs.length ≤ k2) = false := decide_eq_false (by omega)
      generalize vv = V at *
      by_cases q0 : 0 < k2
      · have t4 : decide (0 < k2) = true := decide_eq_true q0
        rcases HX.out q0 with q1 | ⟨q1, q2⟩
        · have t5 : decide (d < la) = false := decide_eq_false (by omega)
          have t6 : (d == la) = false := by simp; omega
          clear q0 q1 HX
          go_wp2_with fail
          all_goals refine ⟨⟨_, F2, M', d, (j : Int) + 1, k2 + 1, rfl, rfl, rfl, by go_num, H2.out, LN.out, IN.out, LT.out, B6.out, F6.out⟩, by simp [intOf]; omega⟩
        · subst q1
          have t5 : decide (la < la) = false := decide_eq_false (by omega)
          have t6 : (la == la) = true := by simp
          have t7 : decide ((j : Int) + 1 ≤ n4) = false := decide_eq_false (by omega)
          clear q0 q2 HX
          go_wp2_with fail
          all_goals refine ⟨⟨_, F2, M', la, (j : Int) + 1, k2 + 1, rfl, rfl, rfl, by go_num, H2.out, LN.out, IN.out, LT.out, B6.out, F6.out⟩, by simp [intOf]; omega⟩
      · have t4 : decide (0 < k2) = false := decide_eq_false q0
        clear q0 HX
        by_cases q1 : d < la
        · have t5 : decide (d < la) = true := decide_eq_true q1
          have t6 : (d == la) = false := by simp; omega
          clear q1
          go_wp2_with fail
          all_goals refine ⟨⟨_, F2, M', d, (j : Int) + 1, k2 + 1, rfl, rfl, rfl, by go_num, H2.out, LN.out, IN.out, LT.out, B6.out, F6.out⟩, by simp [intOf]; omega⟩
        · have t5 : decide (d < la) = false := decide_eq_false q1
          by_cases q2 : d = la
          · subst q2
            have t6 : (d == d) = true := by simp
            obtain ⟨zz, t7⟩ : ∃ zz, decide ((j : Int) + 1 ≤ n4) = zz := ⟨_, rfl⟩
            clear q1
            go_wp2_with fail
            all_goals refine ⟨⟨_, F2, M', d, (j : Int) + 1, k2 + 1, rfl, rfl, rfl, by go_num, H2.out, LN.out, IN.out, LT.out, B6.out, F6.out⟩, by simp [intOf]; omega⟩
          · have t6 : (d == la) = false := by simp; omega
            clear q1 q2
            go_wp2_with fail
            all_goals refine ⟨⟨_, F2, M', d, (j : Int) + 1, k2 + 1, rfl, rfl, rfl, by go_num, H2.out, LN.out, IN.out, LT.out, B6.out, F6.out⟩, by simp [intOf]; omega⟩
theorem walk (w : World) (A : Option Addr) (c : Nat) (zs : List Int) (hn : Nums .i64 w A zs) (hc : zs.length ≤ c) (hm : c ≤ maxLen) (hwf : ∀ n ∈ zs, (Lit.int .i64 n).wf = true) :
    Calls Try.prog 7 #[.slice A zs.length c] w fun e w' => e = .returned (.bool true) ∧ Below w.heap.size w w' := by
  by_cases h : zs.length ≤ 150
  · exact walk_short w A c zs hn h
  · exact walk_long w A c zs (by omega) hc hm

set_option maxRecDepth 100000 in
theorem lifted (os : Os) (started : os.Started) (H : Type) (enc : TypeId × Value → H) :
    ReturnsInHanded {} Try.checked os 7 .any (Rows.queueSortsSpec.pre6 enc Try.prog Try.f7 Rows.queueSortsRow.domain false) (Rows.queueSortsSpec.post enc Try.prog Try.f7 false true false false) := by
  refine returnsInHanded_of_change (C := Try.checked) base.own started (by kernel_rfl) Try.func7
    (ChangeSpec.witness6 (enc := enc) (C := Try.checked) false ⟨#[], #[.slice none 0 0], []⟩ 8 (by kernel_rfl) (by kernel_rfl) (by kernel_rfl) (by kernel_rfl)) ?_
  intro W bs args ds gs before hval0 hW _ _
  have hval : ∀ (j : Nat) t v, Try.f7.params[j]? = some t → args[j]? = some v → Value.okWide Try.prog W .any bs t v := hval0
  have hW' : DataW.Whole enc Try.prog Try.f7.params.toList Rows.queueSortsSpec.vars false W args.toList ds gs before := hW
  obtain ⟨p, q, hA0, hV, rfl, _, _⟩ := hW
  have hA : DataW.TrodAll enc Try.prog W 0 (fun _ => true) true Try.f7.params.toList args.toList ds p := hA0
  rw [Try.params7] at hA hval
  obtain ⟨v0, vs0, d0, ds0, p0, q0, hargs, rfl, rfl, h0, r0⟩ := trodAll_cons hA
  obtain ⟨rfl, rfl, rfl⟩ := trodAll_nil r0
  obtain rfl : args = #[v0] := by cases args; simp_all
  obtain ⟨rfl, rfl⟩ := trodVars_none hV
  obtain ⟨A0, c0, l0, rfl, b0, m0, n0, w0⟩ := base.open_nums Try.underlying42 Try.underlying3 (by kernel_rfl) (hval 0 42 v0 rfl rfl) h0
  clear hA0 hval0
  refine (walk W A0 c0 l0 n0 b0 m0 w0).mono fun e W' ⟨he, hb⟩ => ?_
  subst he
  exact ⟨_, rfl, base.law_post base.laid (by kernel_rfl) rfl rfl Try.underlying4 hW' rfl rfl rfl hb⟩

theorem over : Rows.queueSortsRow.holds Try.pinned (OpenSpec.ofChange Rows.queueSortsSpec) :=
  OpenClaim.holds_of_wide 7 Try.f7 rfl rfl rfl rfl rfl rfl rfl ⟨rfl, rfl, rfl, rfl, rfl⟩ rfl rfl rfl rfl rfl (by kernel_rfl) Try.func7 (by kernel_rfl)
    (of_decide_eq_true (by kernel_rfl)) (by unfold Func.isWrapper; first | (rw [if_pos (by decide +kernel)]; kernel_rfl) | (rw [if_neg (by decide +kernel)]; exact ⟨rfl, rfl⟩))
    (fun os started H enc _ => lifted os started H enc)

theorem proved : Rows.QueueSortsSaid := over
#print axioms proved
end Go.Proofs.Ytmfhellpdpfoaaa.queueSorts
