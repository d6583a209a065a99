/-
  SlottedPlays (P9.1, P9.2): for every size and every list of calls the law answers true, whatever the memory.
  Conditions: none.
-/
import Derived.Test.YtikddbaenokdpaaSlR
namespace Go.Proofs.Ytikddbaenokdpaa.slottedPlays
open Go.ChangeShapes Go.WideShapes Go.ChangeAt Go.RowKit
open base (ret_bool ret_int made up Blk Only below_drewN)
open bytes (Small small_app small_take small_drop small_nil By By_len By_append)
open rk pg
set_option linter.unusedVariables false
set_option linter.unusedSimpArgs false

def U1 : Nat → Prop := fun _ => True
set_option maxHeartbeats 1000000 in
theorem walk_mid (w : World) (n : Int) (A : Option Addr) (c : Nat) (L : List OP) (h1 : 400 < n) (h2 : n ≤ 4096) :
    Calls Try.prog 3 #[.int .i64 n, .slice A L.length c] w (SmP true w) := by
  have AW := Lib.hid (awake_any w)
  have k1 : decide (n > 400) = true := decide_eq_true h1
  have k2 : decide (n ≤ 4096) = true := decide_eq_true h2
  go_enter Try.func3, Try.ntmps3
  go_wp2_with fail
  refine AW.out.mono ?_
  rintro e w3 ⟨rfl, hb3⟩
  have B3 := Lib.hid hb3
  clear hb3
  go_wp2_with fail
  go_ret
  exact ⟨rfl, B3.out⟩
set_option maxHeartbeats 1000000 in
theorem walk_lo (w : World) (n : Int) (A : Option Addr) (ca : Nat) (L : List OP) (hA : rk.Lay EO w A L) (hL : L.length ≤ maxLen) (hO : ∀ o ∈ L, o.Ok w) (h1 : n < 16) :
    Calls Try.prog 3 #[.int .i64 n, .slice A L.length ca] w (SmP true w) := by
  have k1 : decide (n > 400) = false := decide_eq_false (by omega)
  have k3 : decide (n < 16) = true := decide_eq_true h1
  have hbad : NewBad n := .inl h1
  have HA := Lib.hid hA
  have HO := Lib.hid hO
  have SMA := Lib.hid (small_any A ca L 120 w hA hL (by decide))
  clear hA hO
  go_enter Try.func3, Try.ntmps3
  go_wp2_with fail
  refine SMA.out.mono ?_
  rintro e w1 ⟨sm, rfl, hq, b1⟩
  have B1 := Lib.hid b1
  clear b1
  cases sm with
  | false =>
    have AW := Lib.hid (awake_any w1)
    go_wp2_with fail
    refine AW.out.mono ?_
    rintro e w3 ⟨rfl, hb3⟩
    have B3 := Lib.hid (up B1.out hb3 B1.out.size)
    clear hb3
    go_wp2_with fail
    go_ret
    exact ⟨rfl, B3.out⟩
  | true =>
  obtain ⟨h120, hfit⟩ := hq rfl
  have HF := Lib.hid hfit
  clear hq hfit k1
  have NW := Lib.hid (new_bad n w1 hbad)
  clear hbad
  go_wp2_with fail
  refine NW.out.mono ?_
  rintro e w2 ⟨rfl, e2⟩
  obtain rfl := e2.symm
  have AW := Lib.hid (awake_any w1)
  go_wp2_with fail
  refine AW.out.mono ?_
  rintro e w3 ⟨rfl, hb3⟩
  have B3 := Lib.hid (up B1.out hb3 B1.out.size)
  clear hb3
  go_wp2_with fail
  go_ret
  exact ⟨rfl, B3.out⟩
set_option maxHeartbeats 1000000 in
theorem walk_hi (w : World) (n : Int) (A : Option Addr) (ca : Nat) (L : List OP) (hA : rk.Lay EO w A L) (hL : L.length ≤ maxLen) (hO : ∀ o ∈ L, o.Ok w) (h1 : 4096 < n) :
    Calls Try.prog 3 #[.int .i64 n, .slice A L.length ca] w (SmP true w) := by
  have k1 : decide (n > 400) = true := decide_eq_true (by omega)
  have k2 : decide (n ≤ 4096) = false := decide_eq_false (by omega)
  have k3 : decide (n < 16) = false := decide_eq_false (by omega)
  have k4 : decide (n > 4096) = true := decide_eq_true h1
  have hbad : NewBad n := .inr h1
  have HA := Lib.hid hA
  have HO := Lib.hid hO
  have SMA := Lib.hid (small_any A ca L 120 w hA hL (by decide))
  clear hA hO
  go_enter Try.func3, Try.ntmps3
  go_wp2_with fail
  refine SMA.out.mono ?_
  rintro e w1 ⟨sm, rfl, hq, b1⟩
  have B1 := Lib.hid b1
  clear b1
  cases sm with
  | false =>
    have AW := Lib.hid (awake_any w1)
    go_wp2_with fail
    refine AW.out.mono ?_
    rintro e w3 ⟨rfl, hb3⟩
    have B3 := Lib.hid (up B1.out hb3 B1.out.size)
    clear hb3
    go_wp2_with fail
    go_ret
    exact ⟨rfl, B3.out⟩
  | true =>
  obtain ⟨h120, hfit⟩ := hq rfl
  have HF := Lib.hid hfit
  clear hq hfit k1
  have NW := Lib.hid (new_bad n w1 hbad)
  clear hbad
  go_wp2_with fail
  refine NW.out.mono ?_
  rintro e w2 ⟨rfl, e2⟩
  obtain rfl := e2.symm
  have AW := Lib.hid (awake_any w1)
  go_wp2_with fail
  refine AW.out.mono ?_
  rintro e w3 ⟨rfl, hb3⟩
  have B3 := Lib.hid (up B1.out hb3 B1.out.size)
  clear hb3
  go_wp2_with fail
  go_ret
  exact ⟨rfl, B3.out⟩
set_option maxRecDepth 100000 in
set_option maxHeartbeats 8000000 in
theorem walk_main (w : World) (N : Nat) (A : Option Addr) (ca : Nat) (L : List OP) (hA : rk.Lay EO w A L) (hL : L.length ≤ maxLen) (hO : ∀ o ∈ L, o.Ok w) (h1 : 16 ≤ N) (h2 : N ≤ 400) :
    Calls Try.prog 3 #[.int .i64 N, .slice A L.length ca] w (SmP true w) := by
  have k1 : decide ((N : Int) > 400) = false := decide_eq_false (by omega)
  have k3 : decide ((N : Int) < 16) = false := decide_eq_false (by omega)
  have k4 : decide ((N : Int) > 4096) = false := decide_eq_false (by omega)
  have HA := Lib.hid hA
  have HO := Lib.hid hO
  have SMA := Lib.hid (small_any A ca L 120 w hA hL (by decide))
  clear hA hO
  go_enter Try.func3, Try.ntmps3
  go_wp2_with fail
  refine SMA.out.mono ?_
  rintro e w1 ⟨sm, rfl, hq, b1⟩
  have B1 := Lib.hid b1
  clear b1
  cases sm with
  | false =>
    have AW := Lib.hid (awake_any w1)
    go_wp2_with fail
    refine AW.out.mono ?_
    rintro e w3 ⟨rfl, hb3⟩
    have B3 := Lib.hid (up B1.out hb3 B1.out.size)
    clear hb3
    go_wp2_with fail
    go_ret
    exact ⟨rfl, B3.out⟩
  | true =>
  obtain ⟨h120, hfit⟩ := hq rfl
  have HF := Lib.hid hfit
  clear hq hfit k1
  have NW := Lib.hid (new_any N w1 h1 (by omega))
  go_wp2_with fail
  refine NW.out.mono ?_
  rintro e w2 ⟨rfl, hw2⟩
  have PG := Lib.hid (show Pg U1 w2 w.heap.size w1.heap.size N [] from by rw [hw2]; exact new_pg (w := w1) (U := U1) h1 (by omega) B1.out.size (fun _ _ => trivial))
  have B2 := Lib.hid (show Below w.heap.size w w2 from by rw [hw2]; exact up B1.out (made w1 _) B1.out.size)
  clear hw2 NW
  generalize w1.heap.size = g at *
  clear B1
  go_wp2_with fail
  go_loopw [6, 41] (fun x i wr => ∃ (k : Nat) (W : World) (X : List (List Nat)), W = wr ∧ k ≤ L.length ∧ i = .int .i64 k ∧ rk.Own EL wr w.heap.size 9 x X ∧ Pg U1 wr w.heap.size g N X ∧ Below w.heap.size w wr) (fun _ i _ => L.length - (RowKit.intOf i).toNat)
  case atStart => exact ⟨0, _, [], rfl, by omega, rfl, rk.Own.nil _ _ _, PG.out, B2.out⟩
  case round =>
  clear PG B2
  obtain ⟨k, w4, X, rfl, hk, rfl, hx, hp, hb⟩ := hrel
  obtain ⟨Ax, cx, rfl, -⟩ := hx.open_
  by_cases hkl : k < L.length
  · obtain ⟨b, off, rfl, a0, a1, a2⟩ := layO (HA.out.below hb) hkl
    have hok := HO.out _ (List.getElem_mem hkl)
    have hft := HF.out _ (List.getElem_mem hkl)
    generalize L[k] = o at *
    have m5 := made w4 (.cells #[.int .i64 o.k, .int .i64 o.s, .slice o.D o.dl.length o.dc] 30)
    have Q5 := Lib.hid (Blk.new w4 30 #[.int .i64 o.k, .int .i64 o.s, .slice o.D o.dl.length o.dc])
    have B5 := Lib.hid (up hb m5 hb.size)
    have ST := Lib.hid (step_any (hp.below m5) Ax cx (hx.below m5) o.D o.dc o.dl (fun ws ck => hok.lay.below (B5.out.trans ck.below)) hok.small hft o.k o.s)
    have d0 := Q5.out.cell 0
    have d1 := Q5.out.cell 1
    have d2 := Q5.out.cell 2
    clear hok hft m5 hb hp hx
    go_wp2_with fail
    refine ST.out.mono ?_
    rintro e w6 ⟨v6, X6, rfl, hx6, hp6, ck6⟩
    have O6 := Lib.hid hx6
    have P6 := Lib.hid hp6
    have B6 := Lib.hid (B5.out.trans ck6.below)
    obtain ⟨A6, c6, rfl, -⟩ := hx6.open_
    have SA := Lib.hid (same_any hp6 A6 c6 (laylO (n := X6.length) hx6))
    clear hx6 hp6 ck6 d0 d1 d2 ST
    go_wp2_with fail
    refine SA.out.mono ?_
    rintro e w7 ⟨rfl, hb7⟩
    have O7 := Lib.hid (O6.out.below hb7)
    have P7 := Lib.hid (P6.out.below hb7)
    have B7 := Lib.hid (up B6.out hb7 B6.out.size)
    clear hb7 SA
    go_wp2_with fail
    exact ⟨⟨k + 1, _, X6, rfl, by omega, by go_num, O7.out, P7.out, B7.out⟩, by simp [RowKit.intOf]; omega⟩
  · have hke : k = L.length := by omega
    subst hke
    have O4 := Lib.hid hx
    have P4 := Lib.hid hp
    have B4 := Lib.hid hb
    have GD := Lib.hid hp.gd
    have PL := Lib.hid (show (pb N X).length = N from pb_len hp.gd.tt)
    have BY := Lib.hid (show Calls Try.prog 14 #[.pointer (some ⟨g, 0, none⟩)] w4 (fun e w' => e = .returned (.slice (some ⟨w4.heap.size, 0, none⟩) N N) ∧ Blk w' w4.heap.size 5 (By (pb N X)).toArray ∧ Below w4.heap.size w4 w') from by
      have h := bytes_any hp
      unfold BytesP at h
      rw [PL.out] at h
      exact h)
    have SP := Lib.hid (show Small (pb N X) from pb_small hp.gd.ln (by have := hp.gd.tt; omega) hp.small)
    clear hx hp hb
    go_wp2_with fail
    refine BY.out.mono ?_
    rintro e w5 ⟨rfl, bk5, hb5⟩
    have B5 := Lib.hid (up B4.out hb5 B4.out.size)
    have O5 := Lib.hid (O4.out.below hb5)
    have LD := Lib.hid (show Calls Try.prog 13 #[.slice (some ⟨w4.heap.size, 0, none⟩) N N] w5 (LoadP U1 (pb N X) w5) from by
      have h := load_any (U := U1) (some ⟨w4.heap.size, 0, none⟩) N (pb N X) w5 (lay_of_blk bk5) SP.out (by rw [PL.out]; omega) (fun _ _ => trivial)
      rw [PL.out] at h
      exact h)
    clear bk5 hb5 BY
    go_wp2_with fail
    refine LD.out.mono ?_
    rintro e w6 ⟨hb6, ⟨ng, -⟩ | ⟨gd, q, rfl, hq6⟩⟩
    · exact absurd (good_pb GD.out) ng
    rw [pb_zero, PL.out, RL_pb] at hq6
    have B6 := Lib.hid (up B5.out hb6 B5.out.size)
    have SA := Lib.hid (same_any hq6 Ax cx (laylO (O5.out.below hb6)))
    clear hb6 gd hq6 LD
    go_wp2_with fail
    refine SA.out.mono ?_
    rintro e w7 ⟨rfl, hb7⟩
    have B7 := Lib.hid (up B6.out hb7 B6.out.size)
    have AW := Lib.hid (awake_any w7)
    clear hb7 SA
    go_wp2_with fail
    refine AW.out.mono ?_
    rintro e w8 ⟨rfl, hb8⟩
    have B8 := Lib.hid (up B7.out hb8 B7.out.size)
    clear hb8 AW
    go_wp2_with fail
    go_ret
    exact ⟨rfl, B8.out⟩
theorem walk (w : World) (n : Int) (hn : (Lit.int .i64 n).wf = true) (A : Option Addr) (c : Nat) (L : List OP) (hA : rk.Lay EO w A L) (hl : L.length ≤ c) (hc : c ≤ maxLen) (hO : ∀ o ∈ L, o.Ok w) :
    Calls Try.prog 3 #[.int .i64 n, .slice A L.length c] w fun e w' => e = .returned (.bool true) ∧ Below w.heap.size w w' := by
  by_cases h1 : n < 16
  · exact walk_lo w n A c L hA (Nat.le_trans hl hc) hO h1
  by_cases h2 : 4096 < n
  · exact walk_hi w n A c L hA (Nat.le_trans hl hc) hO h2
  by_cases h3 : 400 < n
  · exact walk_mid w n A c L h3 (by omega)
  obtain ⟨N, rfl⟩ : ∃ N : Nat, n = N := ⟨n.toNat, by omega⟩
  exact walk_main w N A c L hA (Nat.le_trans hl hc) hO (by omega) (by omega)

set_option maxRecDepth 100000 in
theorem lifted (os : Os) (started : os.Started) (H : Type) (enc : TypeId × Value → H) :
    ReturnsInHanded {} Try.checked os 3 .any (Rows.slottedPlaysSpec.pre6 enc Try.prog Try.f3 Rows.slottedPlaysRow.domain false) (Rows.slottedPlaysSpec.post enc Try.prog Try.f3 false true false false) := by
  refine returnsInHanded_of_change (C := Try.checked) base.own started (by kernel_rfl) Try.func3
    (ChangeSpec.witness6 (enc := enc) (C := Try.checked) false ⟨#[], #[.int .i64 0, .slice none 0 0], []⟩ 8 (by kernel_rfl) (by kernel_rfl) (by kernel_rfl) (by kernel_rfl)) ?_
  intro W bs args ds gs before hval0 hW _ _
  have hval : ∀ (j : Nat) t v, Try.f3.params[j]? = some t → args[j]? = some v → Value.okWide Try.prog W .any bs t v := hval0
  have hW' : DataW.Whole enc Try.prog Try.f3.params.toList Rows.slottedPlaysSpec.vars false W args.toList ds gs before := hW
  obtain ⟨p, q, hA0, hV, rfl, _, _⟩ := hW
  have hA : DataW.TrodAll enc Try.prog W 0 (fun _ => true) true Try.f3.params.toList args.toList ds p := hA0
  rw [Try.params3] at hA hval
  obtain ⟨v0, vs0, d0, ds0, p0, q0, hargs, rfl, rfl, h0, r0⟩ := trodAll_cons hA
  obtain ⟨v1, vs1, d1, ds1, p1, q1, rfl, rfl, rfl, h1, r1⟩ := trodAll_cons r0
  obtain ⟨rfl, rfl, rfl⟩ := trodAll_nil r1
  obtain rfl : args = #[v0, v1] := by cases args; simp_all
  obtain ⟨rfl, rfl⟩ := trodVars_none hV
  obtain ⟨a0, rfl, rfl, rfl, w0⟩ := open_int Try.underlying3 (hval 0 3 v0 rfl rfl) h0
  obtain ⟨A1, c1, D1, rfl, b1, m1, n1, o1⟩ := pg.open_ops (hval 1 22 v1 rfl rfl) h1
  clear hA0 hval0
  refine (walk W a0 w0 A1 c1 D1 n1 b1 m1 o1).mono fun e W' ⟨he, hb⟩ => ?_
  subst he
  exact ⟨_, rfl, base.law_post base.laid (by kernel_rfl) rfl rfl Try.underlying4 hW' rfl rfl rfl hb⟩

theorem over : Rows.slottedPlaysRow.holds Try.pinned (OpenSpec.ofChange Rows.slottedPlaysSpec) :=
  OpenClaim.holds_of_wide 3 Try.f3 rfl rfl rfl rfl rfl rfl rfl ⟨rfl, rfl, rfl, rfl, rfl⟩ rfl rfl rfl rfl rfl (by kernel_rfl) Try.func3 (by kernel_rfl)
    (of_decide_eq_true (by kernel_rfl)) (by unfold Func.isWrapper; first | (rw [if_pos (by decide +kernel)]; kernel_rfl) | (rw [if_neg (by decide +kernel)]; exact ⟨rfl, rfl⟩))
    (fun os started H enc _ => lifted os started H enc)

theorem proved : Rows.SlottedPlaysSaid := over
#print axioms proved
end Go.Proofs.Ytikddbaenokdpaa.slottedPlays
