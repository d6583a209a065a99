/-
  ThingRestores (P21.3): whatever list is handed in, the law answers true: things are told again from their list; any other list is refused.
  Conditions: none.
-/
import Derived.Test.YtckdfdnhoionnaaTgU
namespace Go.Proofs.Ytckdfdnhoionnaa.thingRestores
open Go.ChangeShapes Go.WideShapes Go.ChangeAt Go.RowKit
open base (ret_bool ret_int made up Blk Only)
open rk mk il nm tg
set_option linter.unusedVariables false
set_option linter.unusedSimpArgs false

def sa : ByteArray := ⟨#[97]⟩
theorem ok_sa : okN sa = true := by decide +kernel
theorem make_a {L : List Th} {nx : Int} (hl : L.length < 4096) : make (L, nx) sa 1 = ((L ++ [⟨nx, sa, 1, 1, 1, 0⟩], nx + 1), nx, 0) := by
  unfold make
  rw [if_neg (by rw [ok_sa]; decide), if_neg (by decide), if_neg (by show ¬ 4096 ≤ L.length; omega)]
theorem make_b {w : World} {B g m K : Nat} {L : List Th} {nx : Int} (H : TAt w B g m L nx K) (hl : L.length < 4096) (G : Gd (L, nx)) (hK : K ≤ 90000) (hB : B ≤ w.heap.size) :
    Calls Try.prog 26 #[.pointer (some ⟨g, 0, none⟩), .string { data := #[97] }, .int .i64 1] w fun e w' => e = .returned (.tuple #[.int .i64 nx, .int .i64 0]) ∧ Below B w w' := by
  have := make_any sa 1 H (by decide) (by rfl) (by omega) G hK hB
  rw [make_a hl] at this
  exact this.mono fun e w' ⟨h1, _, h3⟩ => ⟨h1, h3.to hB⟩
set_option maxRecDepth 100000 in
set_option maxHeartbeats 4000000 in
theorem walk (w : World) (A : Option Addr) (c : Nat) (L : List Th) (hA : Lay E6 w A L) (hc : L.length ≤ c) (hm : c ≤ maxLen) (hD : ∀ x, x ∈ L → ((Lit.int .i64 x.id).wf = true ∧ x.nm.size ≤ maxLen ∧ (Lit.int .i64 x.ow).wf = true ∧ wp (pc x))) (nx : Int) (wn : (Lit.int .i64 nx).wf = true) :
    Calls Try.prog 6 #[.slice A L.length c, .int .i64 nx] w fun e w' => e = .returned (.bool true) ∧ Below w.heap.size w w' := by
  unfold maxLen at hm
  have AW := Lib.hid (fun ws => awake_any ws)
  have HA := Lib.hid hA
  have HD := Lib.hid hD
  clear hA hD
  by_cases hl : L.length > 60
  · have hl2 : decide ((L.length : Int) > 60) = true := decide_eq_true (by omega)
    go_enter Try.func6, Try.ntmps6
    go_wp2_with fail
    refine (AW.out _).mono ?_
    rintro e w2 ⟨rfl, hb2⟩
    have B2 := Lib.hid hb2
    clear hb2
    go_wp2_with fail
    go_ret
    exact ⟨rfl, B2.out⟩
  have hl2 : decide ((L.length : Int) > 60) = false := decide_eq_false (by omega)
  have HL := Lib.hid (show L.length ≤ 60 by omega)
  have RS := Lib.hid (fun ws (h : Below w.heap.size w ws) => restore_any A c L nx ws (HA.out.below h) HD.out (by omega))
  have WH := Lib.hid (fun ws A' c' (h : Lay E6 ws A' L) => whole_any A' c' L nx ws h (fun x hx => (HD.out x hx).2.1) (by omega))
  go_enter Try.func6, Try.ntmps6
  go_wp2_with fail
  clear hl2 hl
  go_loopw [5, 18] (fun v i wr => ∃ (k : Nat) (W : World), W = wr ∧ k ≤ L.length ∧ i = .int .i64 k ∧ rk.Own E6 wr w.heap.size 43 v (L.take k) ∧ Below w.heap.size w wr) (fun _ i _ => L.length - (intOf i).toNat)
  case atStart => exact ⟨0, _, rfl, by omega, rfl, rk.Own.nil _ _ _, Below.refl _ _⟩
  case round =>
  obtain ⟨k, w5, rfl, hk, rfl, ho5, hb5⟩ := hrel
  have O5 := Lib.hid ho5
  have B5 := Lib.hid hb5
  by_cases hkl : k < L.length
  · have LW := lay6 (HA.out.below hb5) hkl
    have TK := Lib.hid (List.take_succ_eq_append_getElem hkl)
    have HT := Lib.hid (show (L.take k).length + 1 ≤ 100000000 by have := HL.out; rw [List.length_take]; omega)
    generalize L.take k = M at *
    obtain ⟨A5, c5, rfl, -⟩ := ho5.open_
    obtain ⟨bb, off, hA5, e0, e1, e2, e3, e4, e5⟩ := LW
    have hm6 := made w5 (.cells #[.int .i64 L[k].id, .string L[k].nm, .int .i64 L[k].ow, .int .i64 L[k].kd, .int .i64 L[k].hs, .int .i64 L[k].sl] 46)
    have B6 := Lib.hid (up hb5 hm6 hb5.size)
    have O6 := Lib.hid (ho5.below hm6)
    have BX := Lib.hid (Blk.new w5 46 #[.int .i64 L[k].id, .string L[k].nm, .int .i64 L[k].ow, .int .i64 L[k].kd, .int .i64 L[k].hs, .int .i64 L[k].sl])
    have WZ := (HD.out _ (List.getElem_mem hkl)).2.1
    clear ho5 hb5 hm6
    subst hA5
    generalize L[k] = d at *
    have RF := Lib.hid (fun ws => ref_any d ws)
    obtain ⟨d0, d1, d2, d3, d4, d5⟩ := d
    dsimp only [tv] at e0 e1 e2 e3 e4 e5 B6 O6 BX RF TK WZ
    unfold maxLen at WZ
    generalize hw6 : w5.alloc (.cells #[.int .i64 d0, .string d1, .int .i64 d2, .int .i64 d3, .int .i64 d4, .int .i64 d5] 46) = w6 at *
    have y0 := BX.out.cell 0
    have y1 := BX.out.cell 1
    have y2 := BX.out.cell 2
    have y3 := BX.out.cell 3
    have y4 := BX.out.cell 4
    have y5 := BX.out.cell 5
    by_cases hz : 60 < d1.size
    · have hz2 : decide ((d1.size : Int) > 60) = true := decide_eq_true (by omega)
      go_wp2_with (rw [hw6])
      refine (AW.out _).mono ?_
      rintro e w7 ⟨rfl, hb7⟩
      have B7 := Lib.hid (up B6.out hb7 B6.out.size)
      clear hb7 y0 y1 y2 y3 y4 y5 e0 e1 e2 e3 e4 e5
      go_wp2_with fail
      go_ret
      exact ⟨rfl, B7.out⟩
    · have hz2 : decide ((d1.size : Int) > 60) = false := decide_eq_false (by omega)
      go_wp2_with (rw [hw6])
      refine (RF.out _).mono ?_
      rintro e w7 ⟨rfl, hb7⟩
      have B7 := Lib.hid (up B6.out hb7 B6.out.size)
      have O7 := O6.out.below hb7
      have O8 := Lib.hid (O7.below (made w7 (.cells #[.int .i64 d0, .string d1, .int .i64 d2, .int .i64 d3, .int .i64 d4, .int .i64 d5] 43)))
      have LY := Lib.hid (Lay.lit (E := E6) (w7.alloc (.cells #[.int .i64 d0, .string d1, .int .i64 d2, .int .i64 d3, .int .i64 d4, .int .i64 d5] 43)) ⟨d0, d1, d2, d3, d4, d5⟩ 43 w7.heap.size (Blk.new _ _ _))
      have B8 := Lib.hid (up B7.out (made w7 (.cells #[.int .i64 d0, .string d1, .int .i64 d2, .int .i64 d3, .int .i64 d4, .int .i64 d5] 43)) B7.out.size)
      clear hb7 O7 y0 y1 y2 y3 y4 y5 e0 e1 e2 e3 e4 e5 hw6 hz2
      go_wp2_with ((with_reducible show wpList _ _ _ (⟨some 31, _, _, _, _, _⟩ :: _) _ _); go_must (refine wp_app TR (c := 1) (n := 1) rfl _ _ rfl rfl rfl rfl rfl O8.out LY.out HT.out B8.out.size ?_))
      intro v9 w9 own9 gr9
      have B9 := Lib.hid (B8.out.trans (gr9.below O8.out B8.out.size))
      rw [← TK.out] at own9
      have O9 := Lib.hid own9
      obtain ⟨A9, c9, rfl, -⟩ := own9.open_
      clear own9 gr9 O8 LY HT
      go_wp2_with fail
      refine ⟨⟨k + 1, _, rfl, by omega, by go_num, O9.out, B9.out⟩, by simp [intOf]; omega⟩
  · obtain rfl : k = L.length := by omega
    rw [List.take_length] at *
    obtain ⟨A5, c5, rfl, -⟩ := ho5.open_
    have R5 := Lib.hid (RS.out _ hb5)
    clear ho5 hb5 RS
    go_wp2_with fail
    refine R5.out.mono ?_
    rintro e w6 (⟨hW, g, m, rfl, ht, hg, hb⟩ | ⟨hW, rfl, hb⟩)
    · have B6 := Lib.hid hb
      have T6 := Lib.hid ht
      have G6 := Lib.hid hg
      have L6 := (own_lay O5.out).below hb
      have W6 := Lib.hid (WH.out _ A5 c5 L6)
      have LL := Lib.hid L6
      have HW := Lib.hid hW
      clear hb ht hg L6 hW R5 WH
      go_wp2_with fail
      refine W6.out.mono ?_
      rintro e w7 ⟨z, rfl, hz, hb7⟩
      obtain rfl : z = true := hz.2 HW.out
      have T7 := T6.out.below hb7
      have S7 := Lib.hid (same_any A5 c5 T7 (LL.out.below hb7) (by have := HL.out; omega))
      have TT7 := Lib.hid T7
      have B7 := Lib.hid (up B6.out hb7 B6.out.size)
      clear hz hb7 T7 W6 HW T6 LL
      go_wp2_with fail
      refine S7.out.mono ?_
      rintro e w8 ⟨rfl, hb8⟩
      have T8 := Lib.hid (TT7.out.below hb8)
      have B8 := Lib.hid (up B7.out hb8 B7.out.size)
      have MK := Lib.hid (make_b T8.out (by have := HL.out; omega) G6.out (by have := HL.out; omega) B8.out.size)
      clear hb8 S7 TT7
      have hnn : (nx == nx) = true := by simp
      go_wp2_with fail
      refine MK.out.mono ?_
      rintro e w9 ⟨rfl, hb9⟩
      have B9 := Lib.hid (B8.out.trans hb9)
      clear hb9 MK
      go_wp2_with fail
      refine (AW.out _).mono ?_
      rintro e wa ⟨rfl, hba⟩
      have Ba := Lib.hid (up B5.out (up B9.out hba B9.out.size) B5.out.size)
      clear hba
      go_wp2_with fail
      go_ret
      exact ⟨rfl, Ba.out⟩
    · have B6 := Lib.hid hb
      have L6 := (own_lay O5.out).below hb
      have W6 := Lib.hid (WH.out _ A5 c5 L6)
      have HW := Lib.hid hW
      clear hb L6 hW R5 WH
      go_wp2_with fail
      refine W6.out.mono ?_
      rintro e w7 ⟨z, rfl, hz, hb7⟩
      obtain rfl : z = false := by
        cases z with
        | false => rfl
        | true => exact absurd (hz.1 rfl) HW.out
      have B7 := Lib.hid (up B6.out hb7 B6.out.size)
      clear hz hb7 W6 HW
      go_wp2_with fail
      refine (AW.out _).mono ?_
      rintro e wa ⟨rfl, hba⟩
      have Ba := Lib.hid (up B5.out (up B7.out hba B7.out.size) B5.out.size)
      clear hba
      go_wp2_with fail
      go_ret
      exact ⟨rfl, Ba.out⟩
set_option maxRecDepth 100000 in
theorem lifted (os : Os) (started : os.Started) (H : Type) (enc : TypeId × Value → H) :
    ReturnsInHanded {} Try.checked os 6 .any (Rows.thingRestoresSpec.pre6 enc Try.prog Try.f6 Rows.thingRestoresRow.domain false) (Rows.thingRestoresSpec.post enc Try.prog Try.f6 false true false false) := by
  refine returnsInHanded_of_change (C := Try.checked) base.own started (by kernel_rfl) Try.func6
    (ChangeSpec.witness6 (enc := enc) (C := Try.checked) false ⟨#[], #[.slice none 0 0, .int .i64 0], []⟩ 8 (by kernel_rfl) (by kernel_rfl) (by kernel_rfl) (by kernel_rfl)) ?_
  intro W bs args ds gs before hval0 hW _ _
  have hval : ∀ (j : Nat) t v, Try.f6.params[j]? = some t → args[j]? = some v → Value.okWide Try.prog W .any bs t v := hval0
  have hW' : DataW.Whole enc Try.prog Try.f6.params.toList Rows.thingRestoresSpec.vars false W args.toList ds gs before := hW
  obtain ⟨p, q, hA0, hV, rfl, _, _⟩ := hW
  have hA : DataW.TrodAll enc Try.prog W 0 (fun _ => true) true Try.f6.params.toList args.toList ds p := hA0
  rw [Try.params6] at hA hval
  obtain ⟨v0, vs0, d0, ds0, p0, q0, hargs, rfl, rfl, h0, r0⟩ := trodAll_cons hA
  obtain ⟨v1, vs1, d1, ds1, p1, q1, rfl, rfl, rfl, h1, r1⟩ := trodAll_cons r0
  obtain ⟨rfl, rfl, rfl⟩ := trodAll_nil r1
  obtain rfl : args = #[v0, v1] := by cases args; simp_all
  obtain ⟨rfl, rfl⟩ := trodVars_none hV
  obtain ⟨A0, c0, D0, rfl, b0, m0, n0, o0⟩ := tg.open_things (hval 0 58 v0 rfl rfl) h0
  obtain ⟨a1, rfl, rfl, rfl, w1⟩ := open_int Try.underlying3 (hval 1 3 v1 rfl rfl) h1
  clear hA0 hval0
  refine (walk W A0 c0 D0 n0 b0 m0 o0 a1 w1).mono fun e W' ⟨he, hb⟩ => ?_
  subst he
  exact ⟨_, rfl, base.law_post base.laid (by kernel_rfl) rfl rfl Try.underlying4 hW' rfl rfl rfl hb⟩

theorem over : Rows.thingRestoresRow.holds Try.pinned (OpenSpec.ofChange Rows.thingRestoresSpec) :=
  OpenClaim.holds_of_wide 6 Try.f6 rfl rfl rfl rfl rfl rfl rfl ⟨rfl, rfl, rfl, rfl, rfl⟩ rfl rfl rfl rfl rfl (by kernel_rfl) Try.func6 (by kernel_rfl)
    (of_decide_eq_true (by kernel_rfl)) (by unfold Func.isWrapper; first | (rw [if_pos (by decide +kernel)]; kernel_rfl) | (rw [if_neg (by decide +kernel)]; exact ⟨rfl, rfl⟩))
    (fun os started H enc _ => lifted os started H enc)

theorem proved : Rows.ThingRestoresSaid := over
#print axioms proved
end Go.Proofs.Ytckdfdnhoionnaa.thingRestores
