/-
  DiskPlays: a disk answers every sequence of writes, flushes, reads and crashes as two lists of sectors do, the one behind the other.
-/
import Derived.Test.YtoabbcallhghcaaDkX
namespace Go.Proofs.Ytoabbcallhghcaa.diskPlays
open Go.ChangeShapes Go.WideShapes Go.ChangeAt Go.RowKit
open dk mk
open base (ret_bool ret_int made up Blk Only)
open bytes (Small)
set_option linter.unusedVariables false
set_option linter.unusedSimpArgs false

set_option maxRecDepth 100000 in
set_option maxHeartbeats 8000000 in
theorem walk (w : World) (A : Option Addr) (ca : Nat) (L : List OP) (hA : rk.Lay EO w A L) (hL : L.length ≤ ca) (hca : ca ≤ maxLen) (hO : ∀ o ∈ L, o.Ok w) :
    Calls Try.prog 3 #[.slice A L.length ca] w fun e w' => e = .returned (.bool true) ∧ Below w.heap.size w w' := by
  go_enter Try.func3, Try.ntmps3
  go_wp2_with fail
  refine (new_any 6 16 w (by decide) (by decide) (by decide) (by decide)).mono ?_
  rintro e w1 ⟨g, s, m, rfl, h1, b1⟩
  have H1 := Lib.hid h1
  have B1 := Lib.hid b1
  clear h1 b1
  go_wp2_with fail
  refine (rnew_any w1).mono ?_
  rintro e w2 ⟨x, p, q, rfl, h2, b2⟩
  have X2 := Lib.hid (h2.mono B1.out.size)
  have D2 := Lib.hid (H1.out.below b2)
  have B2 := Lib.hid (up B1.out b2 B1.out.size)
  clear h2 b2 H1
  go_wp2_with fail
  refine (small_any A ca L 60 w2 (hA.below B2.out) (Nat.le_trans hL hca) (by decide)).mono ?_
  rintro e w3 ⟨sm, rfl, hq, b3⟩
  have X3 := Lib.hid (X2.out.below b3)
  have D3 := Lib.hid (D2.out.below b3)
  have B3 := Lib.hid (up B2.out b3 B2.out.size)
  clear b3 X2 D2
  cases sm with
  | false =>
    go_wp2_with fail
    refine (awake_any w3).mono ?_
    rintro e w4 ⟨rfl, hb4⟩
    have B4 := Lib.hid hb4
    clear hb4
    go_wp2_with fail
    go_ret
    exact ⟨rfl, up B3.out B4.out B3.out.size⟩
  | true =>
    obtain ⟨h60, hfit⟩ := hq rfl
    clear hq
    go_wp2_with fail
    go_loopw [24] (fun i wr => ∃ (k : Nat) (W : World) (d : DD) (c : Nat), W = wr ∧ k ≤ L.length ∧ i = .int .i64 k ∧ Bo wr w.heap.size g s m x p q d c ∧ c ≤ k ∧ d.done ≤ k ∧ Below w.heap.size w wr) (fun i _ => L.length - (RowKit.intOf i).toNat)
    case atStart => exact ⟨0, _, _, 0, rfl, by omega, rfl, ⟨D3.out, X3.out, rfl, rfl, by show (0 : Int) ≤ 0; omega, by show (0 : Int) ≤ 1000; omega, by omega⟩, by omega, by show (0 : Int) ≤ _; omega, B3.out⟩
    case round =>
    clear X3 D3
    obtain ⟨k, w4, d, c, rfl, hk, rfl, hbo, hc, hd, hb⟩ := hrel
    by_cases hkl : k < L.length
    · obtain ⟨b, off, rfl, a0, a1, a2, a3, a4, a5, a6⟩ := layO (hA.below hb) hkl
      have hok := hO _ (List.getElem_mem hkl)
      have hft := hfit _ (List.getElem_mem hkl)
      have m5 := made w4 (.cells #[.int .i64 L[k].k, .int .i64 L[k].s, .int .i64 L[k].n, .slice L[k].D L[k].dl.length L[k].dc, .slice L[k].K L[k].kl.length L[k].kc, .int .i64 L[k].t, .int .i64 L[k].z] 34)
      have Q5 := Lib.hid (opblk w4 L[k])
      generalize L[k] = o at *
      have H5 := Lib.hid (hbo.below m5)
      have B5 := Lib.hid (up hb m5 hb.size)
      have BB := Lib.hid (show ∀ W, SCh g s m x p q (w4.alloc (.cells #[.int .i64 o.k, .int .i64 o.s, .int .i64 o.n, .slice o.D o.dl.length o.dc, .slice o.K o.kl.length o.kc, .int .i64 o.t, .int .i64 o.z] 34)) W → Below w.heap.size w W from fun W hs => B5.out.trans (hs.to H5.out.dat H5.out.xat B5.out.size))
      have FD := Lib.hid (show Fed g s m x p q (w4.alloc (.cells #[.int .i64 o.k, .int .i64 o.s, .int .i64 o.n, .slice o.D o.dl.length o.dc, .slice o.K o.kl.length o.kc, .int .i64 o.t, .int .i64 o.z] 34)) w.heap.size o from
        ⟨fun W hs => hok.lay.below (BB.out W hs), fun W hs => hok.keep.below (BB.out W hs), fun ad e h0 => by
          obtain ⟨b', off', e', hlt, -⟩ := hok.keep h0
          rw [e'] at e
          injection e with e
          subst e
          exact hlt, hok.small, hok.ws, hok.wn, hok.wt, hok.wl, by have := hft.1; omega, by have := hft.2; omega⟩)
      have ST := Lib.hid (step_any H5.out o FD.out)
      unfold opV at ST
      have d0 := Q5.out.cell 0
      have d1 := Q5.out.cell 1
      have d2 := Q5.out.cell 2
      have d3 := Q5.out.cell 3
      have d4 := Q5.out.cell 4
      have d5 := Q5.out.cell 5
      have d6 := Q5.out.cell 6
      have MN := Lib.hid (And.intro hc hd)
      clear hok hft m5 hbo hb hc hd
      go_wp2_with fail
      refine ST.out.mono ?_
      rintro e w6 ⟨rfl, ⟨c6, h6, hc6⟩, x6, o6⟩
      have LK := stp_like d H5.out.s16 o
      have BO := Lib.hid (show Bo w6 w.heap.size g s m x p q (d.stp o) c6 from ⟨h6, x6, LK.n.trans H5.out.n6, LK.size.trans H5.out.s16, by have := LK.lo; have := H5.out.lo; omega, by have := LK.hi; have := MN.out; omega, by have := MN.out; omega⟩)
      have B6 := Lib.hid (BB.out _ o6)
      have MM := Lib.hid (show c6 ≤ k + 1 ∧ (d.stp o).done ≤ (k + 1 : Nat) from ⟨by have := MN.out; omega, by have := LK.hi; have := MN.out; omega⟩)
      clear h6 x6 o6 LK hc6 d0 d1 d2 d3 d4 d5 d6 ST
      go_wp2_with fail
      refine (same_any BO.out).mono ?_
      rintro e w7 ⟨rfl, b7⟩
      have BO7 := Lib.hid (BO.out.below b7)
      have B7 := Lib.hid (up B6.out b7 B6.out.size)
      clear b7
      go_wp2_with fail
      exact ⟨⟨k + 1, _, _, c6, rfl, by omega, by go_num, BO7.out, MM.out.1, MM.out.2, B7.out⟩, by simp [RowKit.intOf]; omega⟩
    · have HB := Lib.hid hbo
      have BB := Lib.hid hb
      clear hbo hb
      go_wp2_with fail
      refine (crash_any HB.out.dat none 0 [] (-1) 0 (rk.Lay.nil E1 _ _) (fun ad e _ => by cases e) (by decide) (fun x hx => by cases hx) (wf_of (by omega) (by omega))).mono ?_
      rintro e w5 ⟨rfl, ⟨c5, h5, hc5⟩, o5⟩
      have X5 := Lib.hid (HB.out.xat.chg HB.out.dat o5)
      have D5 := Lib.hid h5
      have O5 := Lib.hid ((SCh.refl w4).ch o5 : SCh g s m x p q w4 w5)
      have HC5 := Lib.hid hc5
      clear h5 o5 hc5
      go_wp2_with fail
      refine (rcrash_any X5.out HB.out.cac HB.out.secs HB.out.s16 none 0 [] (-1) 0 (rk.Lay.nil E1 _ _) (fun ad e _ => by cases e) (by decide)).mono ?_
      rintro e w6 ⟨rfl, h6, o6⟩
      have D6 := D5.out.xch X5.out o6
      have O6 := Lib.hid (O5.out.xch o6)
      obtain ⟨r1, r2, r3, -⟩ := crash_rest d [] (-1) 0
      have BO := Lib.hid (show Bo w6 w.heap.size g s m x p q (d.crash [] (-1) 0) c5 from ⟨D6, h6, r1.trans HB.out.n6, r2.trans HB.out.s16, by rw [r3]; exact HB.out.lo, by rw [r3]; exact HB.out.hi, by have := HC5.out; omega⟩)
      have B6 := Lib.hid (BB.out.trans (O6.out.to HB.out.dat HB.out.xat BB.out.size))
      generalize d.crash [] (-1) 0 = d6 at *
      clear h6 o6 D6 r1 r2 r3 O6 O5 D5 X5 HB BB hd hc
      go_wp2_with fail
      go_loopw [45] (fun i wr => ∃ (j : Nat) (W : World) (c : Nat), W = wr ∧ j ≤ 6 ∧ i = .int .i64 j ∧ Bo wr w.heap.size g s m x p q d6 c ∧ c ≤ j ∧ Below w.heap.size w wr) (fun i _ => 6 - (RowKit.intOf i).toNat)
      case atStart => exact ⟨0, _, c5, rfl, by omega, rfl, BO.out, by have := HC5.out; omega, B6.out⟩
      case round =>
      clear BO B6
      obtain ⟨j, w7, cj, rfl, hj, rfl, hbo, hcj, hb⟩ := hrel
      have HB := Lib.hid hbo
      have BB := Lib.hid hb
      clear hbo hb
      by_cases hj6 : j < 6
      · have ST := Lib.hid (step_3 HB.out ⟨3, j, 0, none, 0, [], none, 0, [], 0, 0⟩ (wf_of (by show (-9223372036854775808 : Int) ≤ j; omega) (by show (j : Int) ≤ 9223372036854775807; omega)) rfl)
        unfold opV at ST
        dsimp only [List.length_nil] at ST
        go_wp2_with fail
        refine ST.out.mono ?_
        rintro e w8 ⟨rfl, ⟨c8, h8, hc8⟩, x8, o8⟩
        have hs : d6.stp ⟨3, j, 0, none, 0, [], none, 0, [], 0, 0⟩ = d6 := rfl
        rw [hs] at h8 x8
        have B8 := Lib.hid (BB.out.trans (o8.to HB.out.dat HB.out.xat BB.out.size))
        have BO8 := Lib.hid (show Bo w8 w.heap.size g s m x p q d6 c8 from ⟨h8, x8, HB.out.n6, HB.out.s16, HB.out.lo, HB.out.hi, by omega⟩)
        clear h8 x8 o8 ST hs
        go_wp2_with fail
        exact ⟨⟨j + 1, _, c8, rfl, by omega, by go_num, BO8.out, by omega, B8.out⟩, by simp [RowKit.intOf]; omega⟩
      · have hje : j = 6 := by omega
        have AW := Lib.hid (awake_any w7)
        go_wp2_with fail
        refine AW.out.mono ?_
        rintro e w8 ⟨rfl, hb8⟩
        have B8 := Lib.hid hb8
        clear hb8
        go_wp2_with fail
        go_ret
        exact ⟨rfl, up BB.out B8.out BB.out.size⟩

set_option maxRecDepth 100000 in
theorem lifted (os : Os) (started : os.Started) (H : Type) (enc : TypeId × Value → H) :
    ReturnsInHanded {} Try.checked os 3 .any (Rows.diskPlaysSpec.pre6 enc Try.prog Try.f3 Rows.diskPlaysRow.domain false) (Rows.diskPlaysSpec.post enc Try.prog Try.f3 false true false false) := by
  refine returnsInHanded_of_change (C := Try.checked) base.own started (by kernel_rfl) Try.func3
    (ChangeSpec.witness6 (enc := enc) (C := Try.checked) false ⟨#[], #[.slice none 0 0], []⟩ 8 (by kernel_rfl) (by kernel_rfl) (by kernel_rfl) (by kernel_rfl)) ?_
  intro W bs args ds gs before hval0 hW _ _
  have hval : ∀ (j : Nat) t v, Try.f3.params[j]? = some t → args[j]? = some v → Value.okWide Try.prog W .any bs t v := hval0
  have hW' : DataW.Whole enc Try.prog Try.f3.params.toList Rows.diskPlaysSpec.vars false W args.toList ds gs before := hW
  obtain ⟨p, q, hA0, hV, rfl, _, _⟩ := hW
  have hA : DataW.TrodAll enc Try.prog W 0 (fun _ => true) true Try.f3.params.toList args.toList ds p := hA0
  rw [Try.params3] at hA hval
  obtain ⟨v0, vs0, d0, ds0, p0, q0, hargs, rfl, rfl, h0, r0⟩ := trodAll_cons hA
  obtain ⟨rfl, rfl, rfl⟩ := trodAll_nil r0
  obtain rfl : args = #[v0] := by cases args; simp_all
  obtain ⟨rfl, rfl⟩ := trodVars_none hV
  obtain ⟨A0, c0, D0, rfl, b0, m0, n0, o0⟩ := open_ops (hval 0 22 v0 rfl rfl) h0
  clear hA0 hval0
  refine (walk W A0 c0 D0 n0 b0 m0 o0).mono fun e W' ⟨he, hb⟩ => ?_
  subst he
  exact ⟨_, rfl, base.law_post base.laid (by kernel_rfl) rfl rfl Try.underlying4 hW' rfl rfl rfl hb⟩

theorem over : Rows.diskPlaysRow.holds Try.pinned (OpenSpec.ofChange Rows.diskPlaysSpec) :=
  OpenClaim.holds_of_wide 3 Try.f3 rfl rfl rfl rfl rfl rfl rfl ⟨rfl, rfl, rfl, rfl, rfl⟩ rfl rfl rfl rfl rfl (by kernel_rfl) Try.func3 (by kernel_rfl)
    (of_decide_eq_true (by kernel_rfl)) (by unfold Func.isWrapper; first | (rw [if_pos (by decide +kernel)]; kernel_rfl) | (rw [if_neg (by decide +kernel)]; exact ⟨rfl, rfl⟩))
    (fun os started H enc _ => lifted os started H enc)

theorem proved : Rows.DiskPlaysSaid := over
#print axioms proved
end Go.Proofs.Ytoabbcallhghcaa.diskPlays
