/-
  QueuePlays: a queue answers every sequence of calls as a list does, the one ahead of the other.
-/
import Derived.Test.YtmfhellpdpfoaaaQuV
import Derived.LoopTactic
namespace Go.Proofs.Ytmfhellpdpfoaaa.queuePlays
open Go.ChangeShapes Go.WideShapes Go.ChangeAt Go.RowKit
open base (law_post ret_bool ret_int made up Blk Only Nums)
open rk mk qu
set_option linter.unusedVariables false
set_option linter.unusedSimpArgs false

set_option maxRecDepth 100000 in
set_option maxHeartbeats 4000000 in
theorem walk_long (w : World) (A : Option Addr) (c : Nat) (m : Nat) (h : 100 < m) (hm : m ≤ 9223372036854775807) :
    Calls Try.prog 3 #[.slice A m c] w fun e w' => e = .returned (.bool true) ∧ Below w.heap.size w w' := by
  have N := Lib.hid (qnew w)
  have t1 : decide ((m : Int) > 100) = true := decide_eq_true (by omega)
  go_enter Try.func3, Try.ntmps3
  go_wp2_with fail
  refine N.out.mono ?_
  rintro e w1 ⟨q, F, rfl, h1, b1, f1⟩
  have B1 := Lib.hid b1
  have AW := Lib.hid (awake_any w1)
  clear h1 b1 f1 N
  go_wp2_with fail
  refine AW.out.mono ?_
  rintro e w2 ⟨rfl, b2⟩
  have B2 := Lib.hid (up B1.out b2 B1.out.size)
  clear b2
  go_wp2_with fail
  go_ret
  exact ⟨rfl, B2.out⟩
set_option maxRecDepth 100000 in
set_option maxHeartbeats 8000000 in
theorem walk_short (w : World) (A : Option Addr) (c : Nat) (D : List OpR) (hn : Lay EO w A D) (ok : ∀ x, x ∈ D → okO x) (h : D.length ≤ 100) :
    Calls Try.prog 3 #[.slice A D.length c] w fun e w' => e = .returned (.bool true) ∧ Below w.heap.size w w' := by
  have N := Lib.hid (qnew w)
  have HN := Lib.hid hn
  have OK := Lib.hid ok
  have t1 : decide ((D.length : Int) > 100) = false := decide_eq_false (by omega)
  clear hn ok
  go_enter Try.func3, Try.ntmps3
  go_wp2_with fail
  refine N.out.mono ?_
  rintro e w1 ⟨q, F, rfl, h1, b1, f1⟩
  have P1 := Lib.hid (Pair.new h1 f1 b1.size)
  have B1 := Lib.hid (up b1 (made w1 (.cells #[.slice none 0 0, .int .i64 0] 29)) b1.size)
  clear h1 b1 f1 N
  go_wp2_with fail
  generalize w1.alloc (.cells #[.slice none 0 0, .int .i64 0] 29) = w2 at *
  clear t1
  go_loopw [24] (fun i wr => ∃ (k : Nat) (W : World) (F : Nat → Prop) (vl : Value) (M : List It) (ad : Int), W = wr ∧ k ≤ D.length ∧ i = .int .i64 k ∧ Pair F wr q w1.heap.size vl M ad w.heap.size ∧ ad ≤ k ∧ Below w.heap.size w wr) (fun i _ => D.length - (intOf i).toNat)
  case atStart => exact ⟨0, _, F, _, [], 0, rfl, by omega, rfl, P1.out, by omega, B1.out⟩
  case round =>
  obtain ⟨k, w3, F3, vl, M, ad, rfl, hk, rfl, hp, hak, hb⟩ := hrel
  have P3 := Lib.hid hp
  have B3 := Lib.hid hb
  clear hp P1 B1
  by_cases hkl : k < D.length
  · obtain ⟨b, off, rfl, e0, e1, e2, e3⟩ := layOp (HN.out.below hb) hkl
    have okd := OK.out _ (List.getElem_mem hkl)
    generalize D[k] = d at *
    obtain ⟨d0, d1, d2, d3⟩ := d
    obtain ⟨-, o1, -, -⟩ := okd
    dsimp only at e0 e1 e2 e3 o1
    have M4 := made w3 (.cells #[.int .i64 d0, .int .i64 d1, .int .i64 d2, .string d3] 31)
    have KX := Lib.hid (Blk.new w3 31 #[.int .i64 d0, .int .i64 d1, .int .i64 d2, .string d3])
    have P4 := Lib.hid (P3.out.below M4)
    have B4 := Lib.hid (up hb M4 hb.size)
    have ST := Lib.hid (step_any P4.out (by omega) d0 d1 d2 d3 o1)
    clear hb M4 P3 B3
    go_upto_region 8 with fail
    generalize w3.alloc (.cells #[.int .i64 d0, .int .i64 d1, .int .i64 d2, .string d3] 31) = w4 at *
    have x0 := KX.out.cell 0
    have x1 := KX.out.cell 1
    have x2 := KX.out.cell 2
    have x3 := KX.out.cell 3
    clear e0 e1 e2 e3
    go_wp2_with fail
    refine ST.out.mono ?_
    rintro e w5 ⟨rfl, F5, vl5, M5, ad5, p5, b5, a5⟩
    have P5 := Lib.hid p5
    have B5 := Lib.hid (B4.out.trans b5.bel)
    have SA := Lib.hid (same_any p5 (by omega))
    clear p5 b5 ST
    go_wp2_with fail
    refine SA.out.mono ?_
    rintro e w6 ⟨rfl, b6⟩
    have P6 := Lib.hid (P5.out.below b6)
    have B6 := Lib.hid (up B5.out b6 B5.out.size)
    clear b6 SA
    go_wp2_with fail
    refine ⟨⟨k + 1, _, F5, vl5, M5, ad5, rfl, by omega, by go_num, P6.out, by omega, B6.out⟩, by simp [intOf]; omega⟩
  · obtain rfl : k = D.length := by omega
    have AW := Lib.hid (awake_any w3)
    clear hkl hb
    go_wp2_with fail
    refine AW.out.mono ?_
    rintro e w5 ⟨rfl, b5⟩
    have B5 := Lib.hid (up B3.out b5 B3.out.size)
    clear b5
    go_wp2_with fail
    go_ret
    exact ⟨rfl, B5.out⟩
theorem walk (w : World) (A : Option Addr) (c : Nat) (D : List OpR) (hn : Lay EO w A D) (hc : D.length ≤ c) (hm : c ≤ maxLen) (ok : ∀ x, x ∈ D → okO x) :
    Calls Try.prog 3 #[.slice A D.length c] w fun e w' => e = .returned (.bool true) ∧ Below w.heap.size w w' := by
  by_cases h : D.length ≤ 100
  · exact walk_short w A c D hn ok h
  · exact walk_long w A c D.length (by omega) (by unfold maxLen at hm; omega)

set_option maxRecDepth 100000 in
theorem lifted (os : Os) (started : os.Started) (H : Type) (enc : TypeId × Value → H) :
    ReturnsInHanded {} Try.checked os 3 .any (Rows.queuePlaysSpec.pre6 enc Try.prog Try.f3 Rows.queuePlaysRow.domain false) (Rows.queuePlaysSpec.post enc Try.prog Try.f3 false true false false) := by
  refine returnsInHanded_of_change (C := Try.checked) base.own started (by kernel_rfl) Try.func3
    (ChangeSpec.witness6 (enc := enc) (C := Try.checked) false ⟨#[], #[.slice none 0 0], []⟩ 8 (by kernel_rfl) (by kernel_rfl) (by kernel_rfl) (by kernel_rfl)) ?_
  intro W bs args ds gs before hval0 hW _ _
  have hval : ∀ (j : Nat) t v, Try.f3.params[j]? = some t → args[j]? = some v → Value.okWide Try.prog W .any bs t v := hval0
  have hW' : DataW.Whole enc Try.prog Try.f3.params.toList Rows.queuePlaysSpec.vars false W args.toList ds gs before := hW
  obtain ⟨p, q, hA0, hV, rfl, _, _⟩ := hW
  have hA : DataW.TrodAll enc Try.prog W 0 (fun _ => true) true Try.f3.params.toList args.toList ds p := hA0
  rw [Try.params3] at hA hval
  obtain ⟨v0, vs0, d0, ds0, p0, q0, hargs, rfl, rfl, h0, r0⟩ := trodAll_cons hA
  obtain ⟨rfl, rfl, rfl⟩ := trodAll_nil r0
  obtain rfl : args = #[v0] := by cases args; simp_all
  obtain ⟨rfl, rfl⟩ := trodVars_none hV
  obtain ⟨A0, c0, D0, rfl, b0, m0, n0, o0⟩ := open_ops (hval 0 22 v0 rfl rfl) h0
  clear hA0 hval0
  refine (walk W A0 c0 D0 n0 b0 m0 o0).mono fun e W' ⟨he, hb⟩ => ?_
  subst he
  exact ⟨_, rfl, base.law_post base.laid (by kernel_rfl) rfl rfl Try.underlying4 hW' rfl rfl rfl hb⟩

theorem over : Rows.queuePlaysRow.holds Try.pinned (OpenSpec.ofChange Rows.queuePlaysSpec) :=
  OpenClaim.holds_of_wide 3 Try.f3 rfl rfl rfl rfl rfl rfl rfl ⟨rfl, rfl, rfl, rfl, rfl⟩ rfl rfl rfl rfl rfl (by kernel_rfl) Try.func3 (by kernel_rfl)
    (of_decide_eq_true (by kernel_rfl)) (by unfold Func.isWrapper; first | (rw [if_pos (by decide +kernel)]; kernel_rfl) | (rw [if_neg (by decide +kernel)]; exact ⟨rfl, rfl⟩))
    (fun os started H enc _ => lifted os started H enc)

theorem proved : Rows.QueuePlaysSaid := over
#print axioms proved
end Go.Proofs.Ytmfhellpdpfoaaa.queuePlays
