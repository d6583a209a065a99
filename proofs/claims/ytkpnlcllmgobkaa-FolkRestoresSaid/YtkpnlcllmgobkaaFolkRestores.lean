/-
  FolkRestores: accounts are told again from their rows; any rows are refused just if the document says so.
-/
import Derived.Test.YtkpnlcllmgobkaaFkQ
import Derived.Test.YtkpnlcllmgobkaaBase2
namespace Go.Proofs.Ytkpnlcllmgobkaa.folkRestores
open Go.ChangeShapes Go.WideShapes Go.ChangeAt Go.RowKit
open fk mk rk
open base (ret_bool ret_int made up Blk Only)
set_option linter.unusedVariables false
set_option linter.unusedSimpArgs false

theorem mint_last_bad {L : List FR} {s : ByteArray} {z held : Int} {k : Nat} (hk : L.length = k) (hz : z < 0 ∨ 1099511627776 < z ∨ 1099511627776 < tt (L, held) + z) : (mint (L ++ [(s, 0)], held) ((k : Int) + 1) z).2 ≠ 0 := by
  have hlt : k < (L ++ [(s, (0 : Int))]).length := by simp; omega
  have hh := has_at (L ++ [(s, (0 : Int))], held) hlt
  by_cases q : z < 0 ∨ 1099511627776 < z
  · have e : chk (L ++ [(s, 0)], held) ((k : Int) + 1) z = 11 := by
      unfold chk
      rw [hh, if_neg (by simp), if_pos q]
    rw [mint_no (by rw [e]; decide), e]
    exact (by decide : (11 : Int) ≠ 0)
  · have e : chk (L ++ [(s, 0)], held) ((k : Int) + 1) z = 0 := by
      unfold chk
      rw [hh, if_neg (by simp), if_neg q]
    rw [mint_over e (by rw [tt_snoc]; omega)]
    exact (by decide : (15 : Int) ≠ 0)
theorem mint_last_ok {L : List FR} {s : ByteArray} {z held : Int} {k : Nat} (hk : L.length = k) (hz : ¬ (z < 0 ∨ 1099511627776 < z ∨ 1099511627776 < tt (L, held) + z)) : mint (L ++ [(s, 0)], held) ((k : Int) + 1) z = ((L ++ [(s, z)], held), 0) := by
  have hlt : k < (L ++ [(s, (0 : Int))]).length := by simp; omega
  have hh := has_at (L ++ [(s, (0 : Int))], held) hlt
  have e : chk (L ++ [(s, 0)], held) ((k : Int) + 1) z = 0 := by
    unfold chk
    rw [hh, if_neg (by simp), if_neg (by omega)]
  rw [mint_yes e (by rw [tt_snoc]; omega)]
  obtain ⟨hi, h1, h2⟩ := at_ok hh
  rw [h2, h1]
  have e2 : ((k : Int) + 1 - 1).toNat = k := by omega
  simp only [e2]
  have e3 := set_last2 L (s, z) k hk hlt
  have e4 : (L ++ [(s, (0 : Int))])[k].2 = 0 := by
    subst hk
    simp
  dsimp only at e3
  rw [e4, Int.zero_add, e3]
theorem gd_pre {D : List FR} {held : Int} (G : Gd (D, held)) {k : Nat} (hk : k < D.length) : ¬ (D[k].2 < 0 ∨ 1099511627776 < D[k].2 ∨ 1099511627776 < tt (D.take k, held) + D[k].2) := by
  have b := G.bd
  have e : tt (D, held) = held + sumG D := rfl
  have e2 : tt (D.take k, held) = held + sumG (D.take k) := rfl
  obtain ⟨c1, c2⟩ := Pos.at_ (L := D) G.pos hk
  have c3 := (sum_take_le (L := D) G.pos (k + 1)).2
  rw [sumG_take D hk] at c3
  dsimp only at b
  omega
theorem gd_held {D : List FR} {held : Int} (G : Gd (D, held)) : 0 ≤ held ∧ held ≤ 1099511627776 := ⟨G.bd.1, G.bd.2.1⟩

set_option maxRecDepth 100000 in
set_option maxHeartbeats 2000000 in
theorem walk_no (w : World) (A0 : Option Addr) (c0 : Nat) (D0 : List OpR) (A1 : Option Addr) (m1 c1 : Nat) (held : Int) (h0 : Lay EO w A0 D0) (hl : D0.length ≤ 9223372036854775807) (hm : m1 ≤ 9223372036854775807) (h : okS D0 = false ∨ 20 < m1) :
    Calls Try.prog 5 #[.slice A0 D0.length c0, .slice A1 m1 c1, .int .i64 held] w fun e w' => e = .returned (.bool true) ∧ Below w.heap.size w w' := by
  have NW := Lib.hid (new_ex w)
  have AW := Lib.hid (fun ws => awake_any ws)
  cases hq : okS D0 with
  | false =>
    have SM := Lib.hid (fun ws (h : Lay EO ws A0 D0) => smallL_any A0 c0 D0 ws h hl false hq)
    have H0 := Lib.hid h0
    clear h hq h0
    go_enter Try.func5, Try.ntmps5
    go_wp2_with fail
    refine NW.out.mono ?_
    rintro e w1 ⟨g, b, rfl, h1, b1⟩
    have B1 := Lib.hid b1
    have SM := Lib.hid (SM.out w1 (H0.out.below b1))
    clear h1 b1
    go_wp2_with fail
    refine SM.out.mono ?_
    rintro e w2 ⟨rfl, b2⟩
    have B2 := Lib.hid (up B1.out b2 B1.out.size)
    clear b2
    go_wp2_with fail
    refine (AW.out _).mono ?_
    rintro e w4 ⟨rfl, hba⟩
    have BA := Lib.hid (up B2.out hba B2.out.size)
    clear hba
    go_wp2_with fail
    go_ret
    exact ⟨rfl, BA.out⟩
  | true =>
    have h : 20 < m1 := by
      rcases h with h | h
      · rw [hq] at h; cases h
      · exact h
    have SM := Lib.hid (fun ws (h : Lay EO ws A0 D0) => smallL_any A0 c0 D0 ws h hl true hq)
    have H0 := Lib.hid h0
    clear hq h0
    go_enter Try.func5, Try.ntmps5
    go_wp2_with fail
    refine NW.out.mono ?_
    rintro e w1 ⟨g, b, rfl, h1, b1⟩
    have B1 := Lib.hid b1
    have SM := Lib.hid (SM.out w1 (H0.out.below b1))
    clear h1 b1
    go_wp2_with fail
    refine SM.out.mono ?_
    rintro e w2 ⟨rfl, b2⟩
    have B2 := Lib.hid (up B1.out b2 B1.out.size)
    clear b2
    go_wp2_with fail
    refine (AW.out _).mono ?_
    rintro e w4 ⟨rfl, hba⟩
    have BA := Lib.hid (up B2.out hba B2.out.size)
    clear hba
    go_wp2_with fail
    go_ret
    exact ⟨rfl, BA.out⟩
set_option maxRecDepth 100000 in
set_option maxHeartbeats 8000000 in
theorem walk_yes (w : World) (A0 : Option Addr) (c0 : Nat) (D0 : List OpR) (A1 : Option Addr) (c1 : Nat) (D1 : List FR) (held : Int) (h0 : Lay EO w A0 D0) (hq : okS D0 = true) (o0 : ∀ x, x ∈ D0 → okO x) (h1 : Lay EF w A1 D1) (o1 : ∀ x, x ∈ D1 → x.1.size ≤ maxLen ∧ (Lit.int .i64 x.2).wf = true) (hl1 : D1.length ≤ 20) :
    Calls Try.prog 5 #[.slice A0 D0.length c0, .slice A1 D1.length c1, .int .i64 held] w fun e w' => e = .returned (.bool true) ∧ Below w.heap.size w w' := by
  have NW := Lib.hid (new_ex w)
  have AW := Lib.hid (fun ws => awake_any ws)
  have hl0 := (okS_iff.1 hq).1
  have H0 := Lib.hid h0
  have H1 := Lib.hid h1
  have O0 := Lib.hid o0
  have O1 := Lib.hid o1
  have SM := Lib.hid (fun ws (h : Lay EO ws A0 D0) => smallL_any A0 c0 D0 ws h (by omega) true hq)
  clear h0 h1 o0 o1 hq
  go_enter Try.func5, Try.ntmps5
  go_wp2_with fail
  refine NW.out.mono ?_
  rintro e w1 ⟨g, b, rfl, h1, b1⟩
  have SM := Lib.hid (SM.out w1 (H0.out.below b1))
  have F1 := Lib.hid h1
  have B1 := Lib.hid b1
  clear h1 b1 NW
  go_wp2_with fail
  refine SM.out.mono ?_
  rintro e w2 ⟨rfl, b2⟩
  have F2 := F1.out.below b2
  have B2 := up B1.out b2 B1.out.size
  have hm2 := made w2 (.cells #[.slice none 0 0, .slice none 0 0, .int .i64 0] 29)
  have F3 := Lib.hid (F2.below hm2)
  have B3 := Lib.hid (up B2 hm2 B2.size)
  have X3 := Lib.hid (show XAt (w2.alloc (.cells #[.slice none 0 0, .slice none 0 0, .int .i64 0] 29)) w.heap.size w2.heap.size [] 0 from ⟨⟨_, _, Blk.new _ _ _, rk.Own.nil _ _ _, rk.Own.nil _ _ _⟩, B2.size⟩)
  clear b2 F2 B2 hm2 SM F1 B1
  generalize hw3 : w2.alloc (.cells #[.slice none 0 0, .slice none 0 0, .int .i64 0] 29) = w3 at *
  go_wp2_with (rw [hw3])
  clear hw3
  generalize w2.heap.size = gx at *
  go_loopw [43] (fun i wr => ∃ (k : Nat) (W : World) (L : List FR) (h : Int), W = wr ∧ k ≤ D0.length ∧ i = .int .i64 k ∧ FAt wr w.heap.size g b L h (tt (L, h)) ∧ XAt wr w.heap.size gx L h ∧ Gd (L, h) ∧ Below w.heap.size w wr) (fun i _ => D0.length - (intOf i).toNat)
  case atStart => exact ⟨0, _, [], 0, rfl, by omega, rfl, F3.out, X3.out, Gd.nil, B3.out⟩
  case round =>
  clear F3 B3 X3
  obtain ⟨k, w4, L, h, rfl, hk, rfl, hf, hx, hg, hb⟩ := hrel
  have B4 := Lib.hid hb
  have F4 := Lib.hid hf
  have X4 := Lib.hid hx
  have G4 := Lib.hid hg
  clear hf hx hg
  by_cases hkl : k < D0.length
  · obtain ⟨bb, off, rfl, e0, e1, e2, e3, e4⟩ := layO (H0.out.below hb) hkl
    have SZ := Lib.hid ((O0.out _ (List.getElem_mem hkl)).2.2.2.2)
    generalize D0[k] = d at *
    obtain ⟨d0, d1, d2, d3, d4⟩ := d
    dsimp only at *
    have hm := made w4 (.cells #[.int .i64 d0, .int .i64 d1, .int .i64 d2, .int .i64 d3, .string d4] 32)
    have B5 := Lib.hid (up hb hm hb.size)
    have BR := Lib.hid (Blk.new w4 32 #[.int .i64 d0, .int .i64 d1, .int .i64 d2, .int .i64 d3, .string d4])
    have SP := Lib.hid (step_any (a := d1) (d := d2) (n := d3) (s := d4) d0 G4.out (F4.out.below hm) (X4.out.below hm) B5.out.size SZ.out)
    have G5 := Lib.hid (G4.out.step d0 d1 d2 d3 d4)
    clear hm hb F4 X4 G4
    go_upto_region 8 with fail
    generalize w4.alloc (.cells #[.int .i64 d0, .int .i64 d1, .int .i64 d2, .int .i64 d3, .string d4] 32) = w5 at *
    clear e0 e1 e2 e3 e4
    generalize stepS (L, h) d0 d1 d2 d3 d4 = r at *
    obtain ⟨L2, h2⟩ := r
    have r0 := BR.out.cell 0
    have r1 := BR.out.cell 1
    have r2 := BR.out.cell 2
    have r3 := BR.out.cell 3
    have r4 := BR.out.cell 4
    go_wp2_with fail
    refine SP.out.mono ?_
    rintro e w6 ⟨rfl, hf6, hx6, hb6⟩
    have H6 := Lib.hid (And.intro hf6 (And.intro hx6 (B5.out.trans hb6)))
    clear hf6 hx6 hb6 r0 r1 r2 r3 r4 SP
    go_wp2_with fail
    refine ⟨⟨k + 1, _, L2, h2, rfl, by omega, by go_num, H6.out.1, H6.out.2.1, G5.out, H6.out.2.2⟩, by simp [intOf]; omega⟩
  · obtain rfl : k = D0.length := by omega
    have hl := G4.out.len
    dsimp only at hl
    have RO := Lib.hid (rows_any F4.out (by omega))
    clear hb hkl hk
    go_wp2_with fail
    refine RO.out.mono ?_
    rintro e w5 ⟨v5, rfl, o5, b5⟩
    have B5 := Lib.hid (up B4.out b5 B4.out.size)
    have F5 := Lib.hid (F4.out.below b5)
    have X5 := Lib.hid (X4.out.below b5)
    obtain ⟨A5, c5, rfl, l5, -, -⟩ := o5.open_
    have HE := Lib.hid (held_any F5.out)
    have RS := Lib.hid (restore_any A5 c5 L h w5 l5 hl (fun d hd => by have := (okN_len (G4.out.ok d hd)).2; unfold maxLen; omega) true ⟨fun _ => G4.out, fun _ => rfl⟩)
    clear o5 b5 l5 RO F4 X4 B4
    go_wp2_with fail
    refine HE.out.mono ?_
    rintro e w6 ⟨rfl, rfl⟩
    go_wp2_with fail
    refine RS.out.mono ?_
    intro e w6 hr
    obtain ⟨hr1, -, hb6⟩ := (show _ ∧ _ ∧ _ from hr)
    obtain ⟨g2, b2, rfl, f6⟩ := hr1 rfl
    have B6 := Lib.hid (up B5.out hb6 B5.out.size)
    have SA := Lib.hid (same_any G4.out f6 (X5.out.below hb6))
    clear hr hr1 hb6 f6 HE RS F5 X5 B5
    go_wp2_with fail
    refine SA.out.mono ?_
    rintro e w7 ⟨rfl, hb7⟩
    have B7 := up B6.out hb7 B6.out.size
    have hm7 := made w7 (.cells #[.slice none 0 0, .slice none 0 0, .int .i64 held] 29)
    have B8 := Lib.hid (up B7 hm7 B7.size)
    have X8 := Lib.hid (show XAt (w7.alloc (.cells #[.slice none 0 0, .slice none 0 0, .int .i64 held] 29)) w.heap.size w7.heap.size [] held from ⟨⟨_, _, Blk.new _ _ _, rk.Own.nil _ _ _, rk.Own.nil _ _ _⟩, B7.size⟩)
    clear hb7 B7 hm7 SA B6 G4 hl
    go_upto_region 14 with fail
    generalize w7.alloc (.cells #[.slice none 0 0, .slice none 0 0, .int .i64 held] 29) = w8 at *
    generalize w7.heap.size = gy at *
    have Q0 := Lib.hid (fun q0 (hq0 : q0 = (decide (0 ≤ held) && decide (held ≤ 1099511627776))) => show (q0 = true → XAt w8 w.heap.size gy (D1.take 0) held ∧ Gd (D1.take 0, held)) ∧ (q0 = false → ¬ Gd (D1, held)) from by
      subst hq0
      refine ⟨fun e => ?_, fun e G => ?_⟩
      · simp at e
        exact ⟨X8.out, ⟨fun d hd => (by cases hd), e.1, (by show held + 0 ≤ _; omega), by simp, by simp, fun d hd => (by cases hd)⟩⟩
      · have := gd_held G
        simp at e
        omega)
    clear X8
    go_wp2_with fail
    all_goals
      go_loopw [14, 83] (fun a i wr => ∃ (k : Nat) (W : World) (q : Bool), W = wr ∧ k ≤ D1.length ∧ i = .int .i64 k ∧ a = .bool q ∧ (q = true → XAt wr w.heap.size gy (D1.take k) held ∧ Gd (D1.take k, held)) ∧ (q = false → ¬ Gd (D1, held)) ∧ Below w.heap.size w wr) (fun _ i _ => D1.length - (intOf i).toNat)
      case atStart => exact ⟨0, _, _, rfl, by omega, rfl, rfl, (Q0.out _ (by first | (simp [*]; done) | (simp; omega) | (simp_all; done) | (simp_all; omega))).1, (Q0.out _ (by first | (simp [*]; done) | (simp; omega) | (simp_all; done) | (simp_all; omega))).2, B8.out⟩
      case round =>
      clear Q0 B8
      obtain ⟨k, w9, q, rfl, hk, rfl, rfl, hq1, hq2, hb⟩ := hrel
      have B9 := Lib.hid hb
      have Q1 := Lib.hid hq1
      have Q2 := Lib.hid hq2
      clear hq1 hq2
      by_cases hkl : k < D1.length
      · obtain ⟨bb, off, rfl, e0, e1⟩ := layF (H1.out.below hb) hkl
        have SZ := Lib.hid (O1.out _ (List.getElem_mem hkl)).1
        have TK := Lib.hid (List.take_succ_eq_append_getElem hkl)
        have TL := Lib.hid (show (D1.take k).length = k by rw [List.length_take]; omega)
        have BD := Lib.hid (fun i => NmOk.bad (i := i) hkl)
        have OKK := Lib.hid (fun (G : Gd (D1, held)) => G.ok D1[k] (List.getElem_mem hkl))
        have GP := Lib.hid (fun (G : Gd (D1, held)) => gd_pre G hkl)
        generalize D1[k] = d at *
        obtain ⟨d0, d1⟩ := d
        dsimp only at *
        have hm := made w9 (.cells #[.string d0, .int .i64 d1] 52)
        have B10 := Lib.hid (up hb hm hb.size)
        have BR := Lib.hid (Blk.new w9 52 #[.string d0, .int .i64 d1])
        have XB := Lib.hid (fun (X : XAt w9 w.heap.size gy (D1.take k) held) => X.below hm)
        clear hm hb
        go_upto_region 18 with fail
        generalize w9.alloc (.cells #[.string d0, .int .i64 d1] 52) = w10 at *
        clear e0 e1
        have r0 := BR.out.cell 0
        by_cases hsz : 60 < d0.size
        · go_wp2_with fail
          refine (AW.out _).mono ?_
          rintro e w11 ⟨rfl, hba⟩
          have BA := Lib.hid (up B10.out hba B10.out.size)
          clear hba
          go_wp2_with fail
          go_ret
          exact ⟨rfl, BA.out⟩
        cases q with
        | false =>
          go_wp2_with fail
          refine ⟨⟨k + 1, _, false, rfl, by omega, by go_num, rfl, fun h => (by cases h), Q2.out, B10.out⟩, by simp [intOf]; omega⟩
        | true =>
        have X10 := Lib.hid (XB.out (Q1.out rfl).1)
        have G10 := Lib.hid (Q1.out rfl).2
        have AD := Lib.hid (radd_any (s := d0) (by rw [TL.out]; omega) SZ.out B10.out.size X10.out)
        cases hok : okN d0 with
        | false =>
          rw [add_name hok] at AD
          have NG := Lib.hid (show ¬ Gd (D1, held) from fun G => by
            have := OKK.out G
            rw [hok] at this
            cases this)
          clear hok
          go_wp2_with fail
          refine AD.out.mono ?_
          rintro e w11 ⟨rfl, x11, c11⟩
          have B11 := Lib.hid (B10.out.trans (c11.to B10.out.size))
          clear x11 c11 AD
          go_wp2_with fail
          refine ⟨⟨k + 1, _, false, rfl, by omega, by go_num, rfl, fun h => (by cases h), fun _ => NG.out, B11.out⟩, by simp [intOf]; omega⟩
        | true =>
        cases hnu : nu (D1.take k) d0 with
        | some i =>
          rw [add_twice hok (by rw [hnu]; rfl)] at AD
          have NG := Lib.hid (show ¬ Gd (D1, held) from fun G => BD.out i hnu G.nm)
          clear hok hnu
          go_wp2_with fail
          refine AD.out.mono ?_
          rintro e w11 ⟨rfl, x11, c11⟩
          have B11 := Lib.hid (B10.out.trans (c11.to B10.out.size))
          clear x11 c11 AD
          go_wp2_with fail
          refine ⟨⟨k + 1, _, false, rfl, by omega, by go_num, rfl, fun h => (by cases h), fun _ => NG.out, B11.out⟩, by simp [intOf]; omega⟩
        | none =>
        have G11 := Lib.hid (G10.out.add d0)
        have e9 : add (D1.take k, held) d0 = ((D1.take k ++ [(d0, 0)], held), ((D1.take k).length : Int) + 1, 0) := add_yes hok hnu (by rw [TL.out]; omega)
        rw [e9] at AD G11
        rw [TL.out] at AD
        clear hok hnu e9
        go_wp2_with fail
        refine AD.out.mono ?_
        rintro e w11 ⟨rfl, x11, c11⟩
        have B11 := Lib.hid (B10.out.trans (c11.to B10.out.size))
        have r1 := (Chg.blk c11 BR.out rfl).cell 1
        have MI := Lib.hid (rmint_any (id := (k : Int) + 1) (n := d1) G11.out x11)
        clear x11 c11 AD r0
        by_cases hz : d1 < 0 ∨ 1099511627776 < d1 ∨ 1099511627776 < tt (D1.take k, held) + d1
        · have NG := Lib.hid (show ¬ Gd (D1, held) from fun G => GP.out G hz)
          have NE := mint_last_bad (s := d0) TL.out hz
          generalize mint (D1.take k ++ [(d0, 0)], held) ((k : Int) + 1) d1 = r at *
          obtain ⟨r1, r2⟩ := r
          dsimp only at NE
          have NE2 : (r2 == 0) = false := by simpa using NE
          clear hz NE
          go_wp2_with fail
          refine MI.out.mono ?_
          rintro e w12 ⟨rfl, x12, c12⟩
          have B12 := Lib.hid (B11.out.trans (c12.to B11.out.size))
          clear x12 c12 MI
          go_wp2_with fail
          refine ⟨⟨k + 1, _, false, rfl, by omega, by go_num, rfl, fun h => (by cases h), fun _ => NG.out, B12.out⟩, by simp [intOf]; omega⟩
        · have G12 := Lib.hid (G11.out.mint ((k : Int) + 1) d1)
          rw [mint_last_ok TL.out hz] at MI G12
          dsimp only at G12
          rw [← TK.out] at MI G12
          clear hz
          go_wp2_with fail
          refine MI.out.mono ?_
          rintro e w12 ⟨rfl, x12, c12⟩
          have B12 := Lib.hid (B11.out.trans (c12.to B11.out.size))
          have X12 := Lib.hid x12
          clear x12 c12 MI
          go_wp2_with fail
          refine ⟨⟨k + 1, _, true, rfl, by omega, by go_num, rfl, fun _ => ⟨X12.out, G12.out⟩, fun h => (by cases h), B12.out⟩, by simp [intOf]; omega⟩
      · obtain rfl : k = D1.length := by omega
        rw [List.take_length] at Q1
        have QQ := Lib.hid (show q = true ↔ Gd (D1, held) from ⟨fun e => (Q1.out e).2, fun G => by
          cases q with
          | true => rfl
          | false => exact absurd G (Q2.out rfl)⟩)
        have RS := Lib.hid (restore_any A1 c1 D1 held w9 (H1.out.below hb) (by omega) (fun d hd => (O1.out d hd).1) q QQ.out)
        clear hb hkl hk
        cases q with
        | false =>
          go_wp2_with fail
          refine RS.out.mono ?_
          intro e w10 hr
          obtain ⟨-, hr1, hb10⟩ := (show _ ∧ _ ∧ _ from hr)
          have e1 := hr1 rfl
          subst e1
          have B10 := Lib.hid (up B9.out hb10 B9.out.size)
          clear hr hr1 hb10 RS
          go_wp2_with fail
          refine (AW.out _).mono ?_
          rintro e w11 ⟨rfl, hba⟩
          have BA := Lib.hid (up B10.out hba B10.out.size)
          clear hba
          go_wp2_with fail
          go_ret
          exact ⟨rfl, BA.out⟩
        | true =>
          have X9 := Lib.hid (Q1.out rfl).1
          have G9 := Lib.hid (Q1.out rfl).2
          go_wp2_with fail
          refine RS.out.mono ?_
          intro e w10 hr
          obtain ⟨hr1, -, hb10⟩ := (show _ ∧ _ ∧ _ from hr)
          obtain ⟨g3, b3, rfl, f10⟩ := hr1 rfl
          have B10 := Lib.hid (up B9.out hb10 B9.out.size)
          have SA := Lib.hid (same_any G9.out f10 (X9.out.below hb10))
          clear hr hr1 hb10 f10 RS X9
          go_wp2_with fail
          refine SA.out.mono ?_
          rintro e w11 ⟨rfl, hb11⟩
          have B11 := Lib.hid (up B10.out hb11 B10.out.size)
          clear hb11 SA
          go_wp2_with fail
          refine (AW.out _).mono ?_
          rintro e w12 ⟨rfl, hba⟩
          have BA := Lib.hid (up B11.out hba B11.out.size)
          clear hba
          go_wp2_with fail
          go_ret
          exact ⟨rfl, BA.out⟩
theorem walk (w : World) (A0 : Option Addr) (c0 : Nat) (D0 : List OpR) (n0 : Lay EO w A0 D0) (b0 : D0.length ≤ c0) (m0 : c0 ≤ maxLen) (o0 : ∀ x, x ∈ D0 → okO x) (A1 : Option Addr) (c1 : Nat) (D1 : List FR) (n1 : Lay EF w A1 D1) (b1 : D1.length ≤ c1) (m1 : c1 ≤ maxLen) (o1 : ∀ x, x ∈ D1 → x.1.size ≤ maxLen ∧ (Lit.int .i64 x.2).wf = true) (held : Int) (wh : (Lit.int .i64 held).wf = true) :
    Calls Try.prog 5 #[.slice A0 D0.length c0, .slice A1 D1.length c1, .int .i64 held] w fun e w' => e = .returned (.bool true) ∧ Below w.heap.size w w' := by
  unfold maxLen at m0 m1
  cases q : okS D0 with
  | false => exact walk_no w A0 c0 D0 A1 _ c1 held n0 (by omega) (by omega) (.inl q)
  | true =>
    by_cases q2 : 20 < D1.length
    · exact walk_no w A0 c0 D0 A1 _ c1 held n0 (by omega) (by omega) (.inr q2)
    · exact walk_yes w A0 c0 D0 A1 c1 D1 held n0 q o0 n1 o1 (by omega)

set_option maxRecDepth 100000 in
theorem lifted (os : Os) (started : os.Started) (H : Type) (enc : TypeId × Value → H) :
    ReturnsInHanded {} Try.checked os 5 .any (Rows.folkRestoresSpec.pre6 enc Try.prog Try.f5 Rows.folkRestoresRow.domain false) (Rows.folkRestoresSpec.post enc Try.prog Try.f5 false true false false) := by
  refine returnsInHanded_of_change (C := Try.checked) base.own started (by kernel_rfl) Try.func5
    (ChangeSpec.witness6 (enc := enc) (C := Try.checked) false ⟨#[], #[.slice none 0 0, .slice none 0 0, .int .i64 0], []⟩ 8 (by kernel_rfl) (by kernel_rfl) (by kernel_rfl) (by kernel_rfl)) ?_
  intro W bs args ds gs before hval0 hW _ _
  have hval : ∀ (j : Nat) t v, Try.f5.params[j]? = some t → args[j]? = some v → Value.okWide Try.prog W .any bs t v := hval0
  have hW' : DataW.Whole enc Try.prog Try.f5.params.toList Rows.folkRestoresSpec.vars false W args.toList ds gs before := hW
  obtain ⟨p, q, hA0, hV, rfl, _, _⟩ := hW
  have hA : DataW.TrodAll enc Try.prog W 0 (fun _ => true) true Try.f5.params.toList args.toList ds p := hA0
  rw [Try.params5] at hA hval
  obtain ⟨v0, vs0, d0, ds0, p0, q0, hargs, rfl, rfl, h0, r0⟩ := trodAll_cons hA
  obtain ⟨v1, vs1, d1, ds1, p1, q1, rfl, rfl, rfl, h1, r1⟩ := trodAll_cons r0
  obtain ⟨v2, vs2, d2, ds2, p2, q2, rfl, rfl, rfl, h2, r2⟩ := trodAll_cons r1
  obtain ⟨rfl, rfl, rfl⟩ := trodAll_nil r2
  obtain rfl : args = #[v0, v1, v2] := by cases args; simp_all
  obtain ⟨rfl, rfl⟩ := trodVars_none hV
  obtain ⟨A0, c0, D0, rfl, b0, m0, n0, o0⟩ := open_ops (hval 0 44 v0 rfl rfl) h0
  obtain ⟨A1, c1, D1, rfl, b1, m1, n1, o1⟩ := open_frows (hval 1 45 v1 rfl rfl) h1
  obtain ⟨a2, rfl, rfl, rfl, w2⟩ := open_int Try.underlying3 (hval 2 3 v2 rfl rfl) h2
  clear hA0 hval0
  refine (walk W A0 c0 D0 n0 b0 m0 o0 A1 c1 D1 n1 b1 m1 o1 a2 w2).mono fun e W' ⟨he, hb⟩ => ?_
  subst he
  exact ⟨_, rfl, base.law_post base.laid (by kernel_rfl) rfl rfl Try.underlying4 hW' rfl rfl rfl hb⟩

theorem over : Rows.folkRestoresRow.holds Try.pinned (OpenSpec.ofChange Rows.folkRestoresSpec) :=
  OpenClaim.holds_of_wide 5 Try.f5 rfl rfl rfl rfl rfl rfl rfl ⟨rfl, rfl, rfl, rfl, rfl⟩ rfl rfl rfl rfl rfl (by kernel_rfl) Try.func5 (by kernel_rfl)
    (of_decide_eq_true (by kernel_rfl)) (by unfold Func.isWrapper; first | (rw [if_pos (by decide +kernel)]; kernel_rfl) | (rw [if_neg (by decide +kernel)]; exact ⟨rfl, rfl⟩))
    (fun os started H enc _ => lifted os started H enc)

theorem proved : Rows.FolkRestoresSaid := over
#print axioms proved
end Go.Proofs.Ytkpnlcllmgobkaa.folkRestores
