/-
  Rents: both tell the same.
-/
import Derived.Test.YtmgfnhbhgmpchaaRtC
import Derived.BigQuiet
namespace Go.Proofs.Ytmgfnhbhgmpchaa.rn
open Go.RowKit
open base (ret_bool ret_int made up Blk Only)
open rk mk
set_option linter.unusedVariables false
set_option linter.unusedSimpArgs false

theorem FirstV.nil_ok {L : List R3} {a t : Int} {ok : Bool} (h : FirstV L a t ok) (e : L = []) : a = 0 ∧ t = 0 ∧ ok = false := by
  rcases h with ⟨_, h1, h2, h3⟩ | ⟨i, h, _⟩
  · exact ⟨h1, h2, h3⟩
  · subst e; exact absurd h.lt (by simp)
theorem FirstV.some_ok {L : List R3} {a t : Int} {ok : Bool} (h : FirstV L a t ok) {i : Nat} (hi : FirstIs L i) : a = (L[i]'hi.lt).1 ∧ t = (L[i]'hi.lt).2.2 + 41 ∧ ok = true := by
  rcases h with ⟨e, _⟩ | ⟨j, h, h1, h2, h3⟩
  · subst e; exact absurd hi.lt (by simp)
  · have := h.uniq hi
    subst this
    exact ⟨h1, h2, h3⟩
set_option maxRecDepth 100000 in
set_option maxHeartbeats 8000000 in
theorem same_any {g b cn c : Nat} {L : List R3} {A : Option Addr} {w : World} (hr : RAt w g b (look L) cn) (hA : Lay E3 w A L) (hs : Sd L) (hk : Wk L) (hg : Gd L) (hc : cn ≤ 90000) :
    Calls Try.prog 11 #[.pointer (some ⟨g, 0, none⟩), .slice A L.length c] w fun e w' => e = .returned (.bool true) ∧ Below w.heap.size w w' := by
  have RO := Lib.hid (rows_any hr hs hk hc)
  have R0 := Lib.hid hr
  have HA := Lib.hid hA
  have HS := Lib.hid hs
  have HK := Lib.hid hk
  have HG := Lib.hid hg
  clear hr hA hs hk hg
  go_enter Try.func11, Try.ntmps11
  go_wp2_with fail
  refine RO.out.mono ?_
  rintro e w1 ⟨v, rfl, ⟨A1, c1, rfl, hl1, hlo, hb1⟩, hcn⟩
  subst hcn
  have LR := Lib.hid hl1
  have B1 := Lib.hid hb1
  have R1 := Lib.hid (R0.out.below hb1)
  have A1_ := Lib.hid (HA.out.below hb1)
  have LE := Lib.hid (len_any g b L.length (look L) w1 R1.out)
  have hne : ((L.length : Int) != (L.length : Int)) = false := by simp
  clear hl1 hlo hb1 RO R0 HA
  go_wp2_with fail
  refine LE.out.mono ?_
  rintro e w2 ⟨rfl, rfl⟩
  clear LE
  go_wp2_with fail
  clear hne
  go_loopw [29] (fun i wr => ∃ (k : Nat) (W : World), W = wr ∧ k ≤ L.length ∧ i = .int .i64 k ∧ Below w1.heap.size w1 wr) (fun i _ => L.length - (intOf i).toNat)
  case atStart => exact ⟨0, _, rfl, by omega, rfl, Below.refl _ _⟩
  case round =>
  obtain ⟨k, w3, rfl, hk, rfl, hb⟩ := hrel
  have B3 := Lib.hid hb
  by_cases hlt : k < L.length
  · obtain ⟨bb, off, rfl, e0, -, -⟩ := lay3 (LR.out.below hb) hlt
    obtain ⟨bd, of2, rfl, -⟩ := lay3 (A1_.out.below hb) hlt
    have LA := look_at HS.out hlt
    have WF := HK.out _ (List.getElem_mem hlt)
    obtain ⟨d, hdd⟩ : ∃ d, L[k] = d := ⟨_, rfl⟩
    have ROW := Lib.hid (fun ws (h : Lay E3 ws (some ⟨bb, off, none⟩) L) => lay3_at h hlt hdd)
    have ROW2 := Lib.hid (fun ws (h : Lay E3 ws (some ⟨bd, of2, none⟩) L) => lay3_at h hlt hdd)
    rw [hdd] at e0 LA WF
    clear hdd
    obtain ⟨d0, d1, d2⟩ := d
    dsimp only at e0 LA WF ROW ROW2
    have GT := Lib.hid (get_some (R1.out.below hb) WF LA)
    have tl : decide (k < L.length) = true := decide_eq_true hlt
    have tlk : ((L.length : Int) ≤ (k : Int)) = False := by simp; omega
    clear LA WF hb
    go_wp2_with fail
    refine GT.out.mono ?_
    rintro e w4 ⟨rfl, hb4⟩
    have B4 := Lib.hid (up B3.out hb4 B3.out.size)
    clear hb4 GT e0
    have B5 := Lib.hid (up B4.out (made w4 (.cells #[.int .i64 d0, .int .i64 d1, .int .i64 d2] 38)) B4.out.size)
    have Y5 := Lib.hid (Blk.new w4 38 #[.int .i64 d0, .int .i64 d1, .int .i64 d2])
    go_upto_region 8 with fail
    generalize w4.alloc (.cells #[.int .i64 d0, .int .i64 d1, .int .i64 d2] 38) = w5 at *
    obtain ⟨e0, e1, e2⟩ := ROW.out _ (LR.out.below B5.out)
    obtain ⟨f0, f1, f2⟩ := ROW2.out _ (A1_.out.below B5.out)
    have y0 := Y5.out.cell 0
    have y1 := Y5.out.cell 1
    have y2 := Y5.out.cell 2
    have n0 : (d0 == d0) = true := by simp
    have n1 : (d1 == d1) = true := by simp
    have n2 : (d2 == d2) = true := by simp
    go_quiet (fail)
    go_wp2_with fail
    refine ⟨⟨k + 1, _, rfl, by omega, by go_num, base.below_drewN B5.out _⟩, by simp [intOf]; omega⟩
  · obtain rfl : k = L.length := by omega
    have FA := Lib.hid (first_any (R1.out.below hb) HS.out HK.out HG.out hc)
    have B3' := Lib.hid (up B1.out hb B1.out.size)
    have hlt' : decide (L.length < L.length) = false := decide_eq_false (by omega)
    go_wp2_with fail
    refine FA.out.mono ?_
    rintro e w4 ⟨v, rfl, ⟨a, t, ok, rfl, hv⟩, hb4⟩
    have B4 := Lib.hid (up B3.out hb4 B3.out.size)
    have B4' := Lib.hid (up B3'.out hb4 B3'.out.size)
    have FV := Lib.hid hv
    have RF := Lib.hid (rfirst_any A c L w4 (A1_.out.below B4.out) (by omega))
    clear hb4 hv FA hb
    go_wp2_with fail
    refine RF.out.mono ?_
    rintro e w5 ⟨v, rfl, ⟨r, rfl, hfr⟩, hb5⟩
    have B5 := Lib.hid (up B4.out hb5 B4.out.size)
    have B5' := Lib.hid (up B4'.out hb5 B4'.out.size)
    clear hb5 RF
    rcases hfr with ⟨hnil, rfl⟩ | ⟨i, rfl, hi⟩
    · obtain ⟨rfl, rfl, rfl⟩ := FV.out.nil_ok hnil
      go_wp2_with fail
      go_ret
      exact ⟨rfl, B5'.out⟩
    · obtain ⟨rfl, rfl, rfl⟩ := FV.out.some_ok hi
      obtain ⟨bd, of2, rfl, f0, -, f2⟩ := lay3 (A1_.out.below B5.out) hi.lt
      have hd := (HG.out _ (List.getElem_mem hi.lt)).2
      have hil : i < L.length := hi.lt
      have hil2 : (i < L.length) = True := eq_true hi.lt
      have tli : decide (i < L.length) = true := decide_eq_true hi.lt
      have tlik : ((L.length : Int) ≤ (i : Int)) = False := by simp; have := hi.lt; omega
      have ti : decide ((i : Int) < 0) = false := decide_eq_false (by omega)
      generalize (L[i]'hi.lt) = d at *
      obtain ⟨d0, d1, d2⟩ := d
      dsimp only at *
      have w2_ : IntKind.i64.wrap (d2 + 41) = d2 + 41 := IntWalk.i64_in _ (by omega)
      have n0 : (d0 == d0) = true := by simp
      have n1 : ((d2 + 41) == (d2 + 41)) = true := by simp
      go_wp2_with fail
      go_ret
      exact ⟨rfl, B5'.out⟩
end Go.Proofs.Ytmgfnhbhgmpchaa.rn
