/-
  FolkNames: any text is a name just if the document says so; one that is found has it.
-/
import Derived.Test.YtkpnlcllmgobkaaFkN
import Derived.ChangeMaps5
namespace Go.Proofs.Ytkpnlcllmgobkaa.folkNames
open Go.ChangeShapes Go.WideShapes Go.ChangeAt Go.RowKit Go.ChangeMaps
open fk mk rk
open base (ret_bool ret_int made up Blk Only)
set_option linter.unusedVariables false
set_option linter.unusedSimpArgs false

set_option maxRecDepth 100000 in
set_option maxHeartbeats 2000000 in
theorem walk_no (w : World) (A : Option Addr) (m c : Nat) (s : ByteArray) (hm : m ≤ 9223372036854775807) (hs : s.size ≤ 9223372036854775807) (h : 40 < m ∨ 60 < s.size) :
    Calls Try.prog 3 #[.slice A m c, .string s] w fun e w' => e = .returned (.bool true) ∧ Below w.heap.size w w' := by
  have AW := Lib.hid (awake_any w)
  by_cases q : 40 < m
  · clear h
    go_enter Try.func3, Try.ntmps3
    go_wp2_with fail
    refine AW.out.mono ?_
    rintro e w2 ⟨rfl, hba⟩
    have BA := Lib.hid hba
    clear hba
    go_wp2_with fail
    go_ret
    exact ⟨rfl, BA.out⟩
  · have q2 : 60 < s.size := by omega
    clear h
    go_enter Try.func3, Try.ntmps3
    go_wp2_with fail
    refine AW.out.mono ?_
    rintro e w2 ⟨rfl, hba⟩
    have BA := Lib.hid hba
    clear hba
    go_wp2_with fail
    go_ret
    exact ⟨rfl, BA.out⟩
set_option maxRecDepth 100000 in
set_option maxHeartbeats 8000000 in
theorem walk_yes (w : World) (A : Option Addr) (c : Nat) (N : List ByteArray) (s : ByteArray) (hA : Lay ES w A N) (hm : N.length ≤ 40) (hs : s.size ≤ 60) (hN : ∀ x, x ∈ N → x.size ≤ maxLen) :
    Calls Try.prog 3 #[.slice A N.length c, .string s] w fun e w' => e = .returned (.bool true) ∧ Below w.heap.size w w' := by
  have NW := Lib.hid (new_ex w)
  have AW := Lib.hid (fun ws => awake_any ws)
  have HA := Lib.hid hA
  have HN := Lib.hid hN
  clear hA hN
  go_enter Try.func3, Try.ntmps3
  go_wp2_with fail
  refine NW.out.mono ?_
  rintro e w1 ⟨g, b, rfl, h1, b1⟩
  have hm2 := made w1 (.cells #[.slice none 0 0, .slice none 0 0, .int .i64 0] 29)
  have H2 := Lib.hid (h1.below hm2)
  have B2 := Lib.hid (up b1 hm2 b1.size)
  have X2 := Lib.hid (show XAt (w1.alloc (.cells #[.slice none 0 0, .slice none 0 0, .int .i64 0] 29)) w.heap.size w1.heap.size [] 0 from ⟨⟨_, _, Blk.new _ _ _, rk.Own.nil _ _ _, rk.Own.nil _ _ _⟩, b1.size⟩)
  clear h1 b1 hm2 NW
  generalize hw2 : w1.alloc (.cells #[.slice none 0 0, .slice none 0 0, .int .i64 0] 29) = w2 at *
  go_wp2_with (rw [hw2])
  clear hw2
  generalize w1.heap.size = gx at *
  go_loopw [27] (fun i wr => ∃ (k : Nat) (W : World) (L : List FR) (h : Int), W = wr ∧ k ≤ N.length ∧ i = .int .i64 k ∧ FAt wr w.heap.size g b L h (tt (L, h)) ∧ XAt wr w.heap.size gx L h ∧ Gd (L, h) ∧ Below w.heap.size w wr) (fun i _ => N.length - (intOf i).toNat)
  case atStart => exact ⟨0, _, [], 0, rfl, by omega, rfl, H2.out, X2.out, Gd.nil, B2.out⟩
  case round =>
  obtain ⟨k, w3, L, h, rfl, hk, rfl, hf, hx, hg, hb⟩ := hrel
  have B3 := Lib.hid hb
  have F3 := Lib.hid hf
  have X3 := Lib.hid hx
  have G3 := Lib.hid hg
  by_cases hkl : k < N.length
  · obtain ⟨bb, off, rfl, e0⟩ := layS (HA.out.below hb) hkl
    have HS := Lib.hid (HN.out _ (List.getElem_mem hkl))
    clear hf hx hg hb
    generalize N[k] = t at *
    by_cases q : 60 < t.size
    · go_wp2_with fail
      refine (AW.out _).mono ?_
      rintro e w4 ⟨rfl, hba⟩
      have BA := Lib.hid (up B3.out hba B3.out.size)
      clear hba
      go_wp2_with fail
      go_ret
      exact ⟨rfl, BA.out⟩
    · have SP := Lib.hid (step_1 (a := 0) (d := 0) (n := 0) G3.out F3.out X3.out B3.out.size HS.out)
      have G4 := Lib.hid (G3.out.add t)
      generalize (add (L, h) t).1 = r at *
      obtain ⟨L2, h2⟩ := r
      go_wp2_with fail
      refine SP.out.mono ?_
      rintro e w4 ⟨rfl, hf4, hx4, hb4⟩
      have H4 := Lib.hid (And.intro hf4 (And.intro hx4 (B3.out.trans hb4)))
      clear hf4 hx4 hb4
      go_wp2_with fail
      refine ⟨⟨k + 1, _, L2, h2, rfl, by omega, by go_num, H4.out.1, H4.out.2.1, G4.out, H4.out.2.2⟩, by simp [intOf]; omega⟩
  · obtain rfl : k = N.length := by omega
    have hl := hg.len
    dsimp only at hl
    have FI := Lib.hid (find_any (s := s) hf (by unfold maxLen; omega))
    have XF := Lib.hid (rfind_any (s := s) hx (by omega))
    have NA := Lib.hid (name_any s w3 (by omega))
    have RN := Lib.hid (rname_any s w3 (by omega))
    clear hf hx hg hb hl
    generalize okN s = q1 at *
    cases ho : nu L s with
    | none =>
      rw [ho] at FI XF
      replace FI := Lib.hid (show Calls Try.prog _ _ w3 (fun e w' => e = .returned (.tuple #[.int .i64 0, .bool false]) ∧ w3 = w') from FI.out)
      replace XF := Lib.hid (show Calls Try.prog _ _ w3 (fun e w' => e = .returned (.int .i64 0) ∧ w3 = w') from XF.out)
      clear ho
      go_wp2_with fail
      refine FI.out.mono ?_
      rintro e w4 ⟨rfl, rfl⟩
      go_wp2_with fail
      refine NA.out.mono ?_
      rintro e w4 ⟨rfl, rfl⟩
      go_wp2_with fail
      refine RN.out.mono ?_
      rintro e w4 ⟨rfl, rfl⟩
      go_wp2_with fail
      refine XF.out.mono ?_
      rintro e w4 ⟨rfl, rfl⟩
      go_wp2_with fail
      refine (AW.out _).mono ?_
      rintro e w4 ⟨rfl, hba⟩
      have BA := Lib.hid (up B3.out hba B3.out.size)
      clear hba
      go_wp2_with fail
      go_ret
      exact ⟨rfl, BA.out⟩
    | some j =>
      rw [ho] at FI XF
      have hz : (0 : Int) < ix (some j) := by show (0 : Int) < (j : Int) + 1; omega
      generalize ix (some j) = z at *
      replace FI := Lib.hid (show Calls Try.prog _ _ w3 (fun e w' => e = .returned (.tuple #[.int .i64 z, .bool true]) ∧ w3 = w') from FI.out)
      have hz1 : decide (z > 0) = true := decide_eq_true hz
      have hz2 : decide (0 < z) = true := decide_eq_true hz
      clear ho
      go_wp2_with fail
      refine FI.out.mono ?_
      rintro e w4 ⟨rfl, rfl⟩
      go_wp2_with fail
      refine NA.out.mono ?_
      rintro e w4 ⟨rfl, rfl⟩
      go_wp2_with fail
      refine RN.out.mono ?_
      rintro e w4 ⟨rfl, rfl⟩
      go_wp2_with fail
      refine XF.out.mono ?_
      rintro e w4 ⟨rfl, rfl⟩
      go_wp2_with fail
      refine (AW.out _).mono ?_
      rintro e w4 ⟨rfl, hba⟩
      have BA := Lib.hid (up B3.out hba B3.out.size)
      clear hba
      go_wp2_with fail
      go_ret
      exact ⟨rfl, BA.out⟩

theorem walk (w : World) (A : Option Addr) (c : Nat) (D : List ByteArray) (h1 : Lay ES w A D) (hc : D.length ≤ c) (hm : c ≤ maxLen) (hw : ∀ x, x ∈ D → x.size ≤ maxLen) (s : ByteArray) (hs : s.size ≤ maxLen) :
    Calls Try.prog 3 #[.slice A D.length c, .string s] w fun e w' => e = .returned (.bool true) ∧ Below w.heap.size w w' := by
  by_cases q : 40 < D.length ∨ 60 < s.size
  · unfold maxLen at hm hs
    exact walk_no w A _ c s (by omega) hs q
  · exact walk_yes w A c D s h1 (by omega) (by omega) hw

set_option maxRecDepth 100000 in
theorem lifted (os : Os) (started : os.Started) (H : Type) (enc : TypeId × Value → H) :
    ReturnsInHanded {} Try.checked os 3 .any (Rows.folkNamesSpec.pre6 enc Try.prog Try.f3 Rows.folkNamesRow.domain false) (Rows.folkNamesSpec.post enc Try.prog Try.f3 false true false false) := by
  refine returnsInHanded_of_change (C := Try.checked) base.own started (by kernel_rfl) Try.func3
    (ChangeSpec.witness6 (enc := enc) (C := Try.checked) false ⟨#[], #[.slice none 0 0, .string ByteArray.empty], []⟩ 8 (by kernel_rfl) (by kernel_rfl) (by kernel_rfl) (by kernel_rfl)) ?_
  intro W bs args ds gs before hval0 hW _ _
  have hval : ∀ (j : Nat) t v, Try.f3.params[j]? = some t → args[j]? = some v → Value.okWide Try.prog W .any bs t v := hval0
  have hW' : DataW.Whole enc Try.prog Try.f3.params.toList Rows.folkNamesSpec.vars false W args.toList ds gs before := hW
  obtain ⟨p, q, hA0, hV, rfl, _, _⟩ := hW
  have hA : DataW.TrodAll enc Try.prog W 0 (fun _ => true) true Try.f3.params.toList args.toList ds p := hA0
  rw [Try.params3] at hA hval
  obtain ⟨v0, vs0, d0, ds0, p0, q0, hargs, rfl, rfl, h0, r0⟩ := trodAll_cons hA
  obtain ⟨v1, vs1, d1, ds1, p1, q1, rfl, rfl, rfl, h1, r1⟩ := trodAll_cons r0
  obtain ⟨rfl, rfl, rfl⟩ := trodAll_nil r1
  obtain rfl : args = #[v0, v1] := by cases args; simp_all
  obtain ⟨rfl, rfl⟩ := trodVars_none hV
  obtain ⟨A0, c0, D0, rfl, b0, m0, n0, o0⟩ := open_names (hval 0 22 v0 rfl rfl) h0
  obtain ⟨a1, rfl, _, _, w1⟩ := open_string Try.underlying9 (hval 1 9 v1 rfl rfl) h1
  clear hA0 hval0
  refine (walk W A0 c0 D0 n0 b0 m0 o0 a1 w1).mono fun e W' ⟨he, hb⟩ => ?_
  subst he
  exact ⟨_, rfl, base.law_post base.laid (by kernel_rfl) rfl rfl Try.underlying4 hW' rfl rfl rfl hb⟩

theorem over : Rows.folkNamesRow.holds Try.pinned (OpenSpec.ofChange Rows.folkNamesSpec) :=
  OpenClaim.holds_of_wide 3 Try.f3 rfl rfl rfl rfl rfl rfl rfl ⟨rfl, rfl, rfl, rfl, rfl⟩ rfl rfl rfl rfl rfl (by kernel_rfl) Try.func3 (by kernel_rfl)
    (of_decide_eq_true (by kernel_rfl)) (by unfold Func.isWrapper; first | (rw [if_pos (by decide +kernel)]; kernel_rfl) | (rw [if_neg (by decide +kernel)]; exact ⟨rfl, rfl⟩))
    (fun os started H enc _ => lifted os started H enc)

theorem proved : Rows.FolkNamesSaid := over
#print axioms proved
end Go.Proofs.Ytkpnlcllmgobkaa.folkNames
