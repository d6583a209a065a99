/-
  DeedRestores: deeds are told again from their list; any list is refused just if the document says so.
-/
import Derived.Test.YtmnkkdalobdabaaDeedN
import Derived.Test.YtmnkkdalobdabaaDeedT
import Derived.Test.YtmnkkdalobdabaaStructs
import Derived.Test.YtmnkkdalobdabaaBase2
import Derived.Deep.CutRange
namespace Go.Proofs.Ytmnkkdalobdabaa.deedRestores
open Go.ChangeShapes Go.WideShapes Go.ChangeAt Go.RowKit
open dd rk
open base (ret_bool ret_int made up Blk Only Nums IntRows below_drewN)
set_option linter.unusedVariables false
set_option linter.unusedSimpArgs false

set_option maxRecDepth 100000 in
set_option maxHeartbeats 2000000 in
theorem walk_no (w : World) (A : Option Addr) (m c : Nat) (nx : Int) (hm : m ≤ 9223372036854775807) (h : 60 < m) :
    Calls Try.prog 5 #[.slice A m c, .int .i64 nx] w fun e w' => e = .returned (.bool true) ∧ Below w.heap.size w w' := by
  have AW := Lib.hid (fun ws => awake_any ws)
  go_enter Try.func5, Try.ntmps5
  go_wp2_with fail
  refine (AW.out _).mono ?_
  rintro e w2 ⟨rfl, hb2⟩
  have B2 := Lib.hid hb2
  clear hb2
  go_wp2_with fail
  go_ret
  exact ⟨rfl, B2.out⟩

set_option maxRecDepth 100000 in
set_option maxHeartbeats 8000000 in
theorem walk_yes (w : World) (A : Option Addr) (c : Nat) (L : List D) (nx : Int) (hA : Lay E3 w A L) (hl : L.length ≤ 60) :
    Calls Try.prog 5 #[.slice A L.length c, .int .i64 nx] w fun e w' => e = .returned (.bool true) ∧ Below w.heap.size w w' := by
  have AW := Lib.hid (fun ws => awake_any ws)
  have HA := Lib.hid hA
  clear hA
  go_enter Try.func5, Try.ntmps5
  go_wp2_with fail
  go_loopw [5, 18] (fun o i wr => ∃ (k : Nat) (W : World), W = wr ∧ k ≤ L.length ∧ i = .int .i64 k ∧ rk.Own E3 wr w.heap.size 45 o (L.take k) ∧ Below w.heap.size w wr) (fun _ i _ => L.length - (intOf i).toNat)
  case atStart => exact ⟨0, _, rfl, by omega, rfl, rk.Own.nil _ _ _, Below.refl _ _⟩
  case round =>
  obtain ⟨k, w2, rfl, hk, rfl, ho, hb⟩ := hrel
  have O2 := Lib.hid ho
  have B2 := Lib.hid hb
  clear ho
  by_cases hkl : k < L.length
  · obtain ⟨b, off, rfl, e0, e1, e2⟩ := lay3 (HA.out.below hb) hkl
    have TK := Lib.hid (List.take_succ_eq_append_getElem hkl)
    have HT := Lib.hid (show (L.take k).length + 1 ≤ 100000000 by rw [List.length_take]; omega)
    clear hb
    generalize L[k] = d at *
    obtain ⟨d0, d1, d2⟩ := d
    dsimp only at e0 e1 e2
    have hm := made w2 (.cells #[.int .i64 d0, .int .i64 d1, .int .i64 d2] 40)
    have B3 := Lib.hid (up B2.out hm B2.out.size)
    have O3 := Lib.hid (O2.out.below hm)
    have BY3 := Lib.hid (Blk.new w2 40 #[.int .i64 d0, .int .i64 d1, .int .i64 d2])
    clear hm
    go_upto_region 7 with fail
    generalize w2.alloc (.cells #[.int .i64 d0, .int .i64 d1, .int .i64 d2] 40) = w3 at *
    have y0 := BY3.out.cell 0
    have y1 := BY3.out.cell 1
    have y2 := BY3.out.cell 2
    have O6 := Lib.hid (O3.out.below (made w3 (.cells #[.int .i64 d0, .int .i64 d1, .int .i64 d2] 45)))
    have LY := Lib.hid (Lay.lit (E := E3) (w3.alloc (.cells #[.int .i64 d0, .int .i64 d1, .int .i64 d2] 45)) (d0, d1, d2) 45 w3.heap.size (Blk.new _ _ _))
    have B6 := Lib.hid (up B3.out (made w3 (.cells #[.int .i64 d0, .int .i64 d1, .int .i64 d2] 45)) B3.out.size)
    go_wp2_with ((with_reducible show wpList _ _ _ (⟨some 25, _, _, _, _, _⟩ :: _) _ _); go_must (refine wp_app TR (c := 1) (n := 1) rfl _ _ rfl rfl rfl rfl rfl O6.out LY.out HT.out B6.out.size ?_))
    intro v7 w7 own7 gr7
    have B7 := Lib.hid (B6.out.trans (gr7.below O6.out B6.out.size))
    rw [← TK.out] at own7
    have O7 := Lib.hid own7
    obtain ⟨A2, c2, rfl, -⟩ := own7.open_
    clear own7 gr7 O6 LY B6 e0 e1 e2 y0 y1 y2 HT
    go_wp2_with fail
    refine ⟨⟨k + 1, _, rfl, by omega, by go_num, O7.out, B7.out⟩, by simp [intOf]; omega⟩
  · obtain rfl : k = L.length := by omega
    rw [List.take_length] at O2
    obtain ⟨A2, c2, rfl, hl2, -⟩ := O2.out.open_
    have LX := Lib.hid hl2
    have LA := Lib.hid (HA.out.below hb)
    clear hb hl2
    by_cases q : Rt L nx
    · have RE := Lib.hid (restore_any A c L nx w2 LA.out (by omega) true ⟨fun _ => q, fun _ => rfl⟩)
      have RI := Lib.hid (fun ws (h : Lay E3 ws A2 L) => rright_any A2 c2 L nx ws h (by omega) true ⟨fun _ => q, fun _ => rfl⟩)
      have Q1 := q.1
      have Q2 := q.2.1
      clear q
      go_wp2_with fail
      refine RE.out.mono ?_
      intro e w3 hr
      obtain ⟨rfl, hd3, hb3⟩ := (show _ ∧ _ ∧ _ from hr)
      have D3 := Lib.hid hd3
      have B3 := Lib.hid (up B2.out hb3 B2.out.size)
      have LX3 := Lib.hid (LX.out.below hb3)
      have LA3 := Lib.hid (LA.out.below hb3)
      have Z3 := Lib.hid hb3.size
      clear hr hd3 hb3 RE
      go_wp2_with fail
      refine (RI.out _ LX3.out).mono ?_
      rintro e w4 ⟨rfl, hb4⟩
      have D4 := Lib.hid (D3.out.below hb4)
      have B4 := Lib.hid (up B3.out hb4 B3.out.size)
      have LX4 := Lib.hid (LX3.out.below hb4)
      have LA4 := Lib.hid (LA3.out.below hb4)
      have Z4 := Lib.hid (Nat.le_trans Z3.out hb4.size)
      clear hb4 RI
      have SB := Lib.hid (same_any A2 c2 L nx w2.heap.size w2.heap.size w4 D4.out LX4.out (by omega))
      go_wp2_with fail
      refine SB.out.mono ?_
      rintro e w5 ⟨rfl, hb5⟩
      have D5 := Lib.hid (D4.out.below hb5)
      have B5 := Lib.hid (up B4.out hb5 B4.out.size)
      have LA5 := Lib.hid (LA4.out.below hb5)
      have Z5 := Lib.hid (Nat.le_trans Z4.out hb5.size)
      clear hb5 SB
      have OT := Lib.hid (other_any A c L true w5 LA5.out (by omega))
      go_wp2_with fail
      refine OT.out.mono ?_
      rintro e w6 ⟨v6, rfl, ⟨n6, rfl, hn6, hx6, hall6⟩, hb6⟩
      have D6 := Lib.hid (D5.out.below hb6)
      have B6 := Lib.hid (up B5.out hb6 B5.out.size)
      have LA6 := Lib.hid (LA5.out.below hb6)
      have Z6 := Lib.hid (Nat.le_trans Z5.out hb6.size)
      have F6 := Lib.hid (fi_none (M := L) (p := (n6 : Int)) (fun d hd => hall6 d hd))
      clear hb6 OT hall6
      have OT := Lib.hid (other_any A c L false w6 LA6.out (by omega))
      go_wp2_with fail
      refine OT.out.mono ?_
      rintro e w7 ⟨v7, rfl, ⟨n7, rfl, hn7, hx7, hall7⟩, hb7⟩
      have D7 := Lib.hid (D6.out.below hb7)
      have B7 := Lib.hid (up B6.out hb7 B6.out.size)
      have Z7 := Lib.hid (Nat.le_trans Z6.out hb7.size)
      have F7 := Lib.hid (show (held L (n7 : Int)).length < 3 from by
        have : L.filter (fun d => d.2.2 == (n7 : Int)) = [] := List.filter_eq_nil_iff.2 (fun d hd => by have := hall7 d hd; simpa [key] using this)
        unfold held
        rw [this]
        decide)
      clear hb7 OT hall7
      have IS := Lib.hid (issue_any w2.heap.size w2.heap.size L nx n6 n7 w7 D7.out (by omega) ⟨by omega, by omega⟩ Z7.out)
      rw [issue_yes (by omega) (by omega) F6.out F7.out] at IS
      go_wp2_with fail
      refine IS.out.mono ?_
      rintro e w8 ⟨rfl, -, hb8, -⟩
      have B8 := Lib.hid (B7.out.trans (hb8.mono B2.out.size))
      clear hb8 IS
      go_wp2_with fail
      refine (AW.out _).mono ?_
      rintro e w9 ⟨rfl, hb9⟩
      have B9 := Lib.hid (up B8.out hb9 B8.out.size)
      clear hb9
      go_wp2_with fail
      go_ret
      exact ⟨rfl, B9.out⟩
    · have RE := Lib.hid (restore_any A c L nx w2 LA.out (by omega) false ⟨fun h => (by cases h), fun h => absurd h q⟩)
      have RI := Lib.hid (fun ws (h : Lay E3 ws A2 L) => rright_any A2 c2 L nx ws h (by omega) false ⟨fun h => (by cases h), fun h => absurd h q⟩)
      clear q
      go_wp2_with fail
      refine RE.out.mono ?_
      intro e w3 hr
      obtain ⟨rfl, hb3⟩ := (show _ ∧ _ from hr)
      have B3 := Lib.hid (up B2.out hb3 B2.out.size)
      have LX3 := Lib.hid (LX.out.below hb3)
      clear hr hb3 RE
      go_wp2_with fail
      refine (RI.out _ LX3.out).mono ?_
      rintro e w4 ⟨rfl, hb4⟩
      have B4 := Lib.hid (up B3.out hb4 B3.out.size)
      clear hb4 RI
      go_wp2_with fail
      refine (AW.out _).mono ?_
      rintro e w5 ⟨rfl, hb5⟩
      have B5 := Lib.hid (up B4.out hb5 B4.out.size)
      clear hb5
      go_wp2_with fail
      go_ret
      exact ⟨rfl, B5.out⟩

theorem lay_rows {w : World} {A : Option Addr} {m : Nat} {F : Nat → Nat → Int} (h : IntRows w A m 3 F) : Lay E3 w A ((List.range m).map (fun i => (F i 0, F i 1, F i 2))) := fun h0 => by
  obtain ⟨b, off, e, hlt, hc⟩ := h (by simpa using h0)
  refine ⟨b, off, e, hlt, fun i hi j hj => ?_⟩
  have hi : i < m := by simpa using hi
  have hj : j < 3 := hj
  rw [show i * E3.k = i * 3 from rfl, hc i hi j hj]
  simp only [List.getElem_map, List.getElem_range]
  rcases j with _ | _ | _ | j
  · rfl
  · rfl
  · rfl
  · omega

theorem walk (w : World) (A : Option Addr) (m c : Nat) (F : Nat → Nat → Int) (h1 : IntRows w A m 3 F) (hc : m ≤ c) (hm : c ≤ maxLen) (hw : ∀ i, i < m → ∀ j, j < 3 → -9223372036854775808 ≤ F i j ∧ F i j ≤ 9223372036854775807) (n : Int) (wn : (Lit.int .i64 n).wf = true) :
    Calls Try.prog 5 #[.slice A m c, .int .i64 n] w fun e w' => e = .returned (.bool true) ∧ Below w.heap.size w w' := by
  unfold maxLen at hm
  by_cases q : 60 < m
  · exact walk_no w A m c n (by omega) q
  · have := walk_yes w A c _ n (lay_rows h1) (by simp; omega)
    rw [List.length_map, List.length_range] at this
    exact this

set_option maxRecDepth 100000 in
theorem lifted (os : Os) (started : os.Started) (H : Type) (enc : TypeId × Value → H) :
    ReturnsInHanded {} Try.checked os 5 .any (Rows.deedRestoresSpec.pre6 enc Try.prog Try.f5 Rows.deedRestoresRow.domain false) (Rows.deedRestoresSpec.post enc Try.prog Try.f5 false true false false) := by
  refine returnsInHanded_of_change (C := Try.checked) base.own started (by kernel_rfl) Try.func5
    (ChangeSpec.witness6 (enc := enc) (C := Try.checked) false ⟨#[], #[.slice none 0 0, .int .i64 0], []⟩ 8 (by kernel_rfl) (by kernel_rfl) (by kernel_rfl) (by kernel_rfl)) ?_
  intro W bs args ds gs before hval0 hW _ _
  have hval : ∀ (j : Nat) t v, Try.f5.params[j]? = some t → args[j]? = some v → Value.okWide Try.prog W .any bs t v := hval0
  have hW' : DataW.Whole enc Try.prog Try.f5.params.toList Rows.deedRestoresSpec.vars false W args.toList ds gs before := hW
  obtain ⟨p, q, hA0, hV, rfl, _, _⟩ := hW
  have hA : DataW.TrodAll enc Try.prog W 0 (fun _ => true) true Try.f5.params.toList args.toList ds p := hA0
  rw [Try.params5] at hA hval
  obtain ⟨v0, vs0, d0, ds0, p0, q0, hargs, rfl, rfl, h0, r0⟩ := trodAll_cons hA
  obtain ⟨v1, vs1, d1, ds1, p1, q1, rfl, rfl, rfl, h1, r1⟩ := trodAll_cons r0
  obtain ⟨rfl, rfl, rfl⟩ := trodAll_nil r1
  obtain rfl : args = #[v0, v1] := by cases args; simp_all
  obtain ⟨rfl, rfl⟩ := trodVars_none hV
  obtain ⟨A0, k0, c0, F0, rfl, b0, m0, n0, w0⟩ := base.open_introws 3 Try.underlying49 Try.underlying40 (by kernel_rfl) (by kernel_rfl) rfl (by omega) (by intro j f hj; rcases j with _ | _ | _ | j <;> simp at hj <;> (subst hj; exact Try.underlying3)) (hval 0 49 v0 rfl rfl) h0
  obtain ⟨a1, rfl, rfl, rfl, w1⟩ := open_int Try.underlying3 (hval 1 3 v1 rfl rfl) h1
  clear hA0 hval0
  refine (walk W A0 k0 c0 F0 n0 b0 m0 w0 a1 w1).mono fun e W' ⟨he, hb⟩ => ?_
  subst he
  exact ⟨_, rfl, base.law_post base.laid (by kernel_rfl) rfl rfl Try.underlying4 hW' rfl rfl rfl hb⟩

theorem over : Rows.deedRestoresRow.holds Try.pinned (OpenSpec.ofChange Rows.deedRestoresSpec) :=
  OpenClaim.holds_of_wide 5 Try.f5 rfl rfl rfl rfl rfl rfl rfl ⟨rfl, rfl, rfl, rfl, rfl⟩ rfl rfl rfl rfl rfl (by kernel_rfl) Try.func5 (by kernel_rfl)
    (of_decide_eq_true (by kernel_rfl)) (by unfold Func.isWrapper; first | (rw [if_pos (by decide +kernel)]; kernel_rfl) | (rw [if_neg (by decide +kernel)]; exact ⟨rfl, rfl⟩))
    (fun os started H enc _ => lifted os started H enc)

theorem proved : Rows.DeedRestoresSaid := over
#print axioms proved
end Go.Proofs.Ytmnkkdalobdabaa.deedRestores
