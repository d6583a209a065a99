/-
  RentPays: some periods, paid one by one, make a rent due at the same tick as all of them paid at once, and cost the same.
-/
import Derived.Test.YtmgfnhbhgmpchaaRentC
namespace Go.Proofs.Ytmgfnhbhgmpchaa.rentPays
open Go.ChangeShapes Go.WideShapes Go.ChangeAt Go.RowKit
open rn mk
open base (ret_bool ret_int made up Blk Only)
set_option linter.unusedVariables false
set_option linter.unusedSimpArgs false

set_option maxRecDepth 100000 in
set_option maxHeartbeats 2000000 in
theorem walk_no (w : World) (rate p now : Int) (h : ¬ (1 ≤ rate ∧ rate ≤ 68719476736 ∧ 1 ≤ p ∧ p ≤ 11 ∧ 0 ≤ now ∧ now ≤ 1099511627776)) :
    Calls Try.prog 7 #[.int .i64 rate, .int .i64 p, .int .i64 now] w fun e w' => e = .returned (.bool true) ∧ Below w.heap.size w w' := by
  have AW := Lib.hid (fun ws => awake_any ws)
  by_cases q1 : rate < 1
  · clear h
    go_enter Try.func7, Try.ntmps7
    go_wp2_with fail
    refine (AW.out _).mono ?_
    rintro e w2 ⟨rfl, hb2⟩
    have B2 := Lib.hid hb2
    clear hb2
    go_wp2_with fail
    go_ret
    exact ⟨rfl, B2.out⟩
  by_cases q2 : 68719476736 < rate
  · clear h
    go_enter Try.func7, Try.ntmps7
    go_wp2_with fail
    refine (AW.out _).mono ?_
    rintro e w2 ⟨rfl, hb2⟩
    have B2 := Lib.hid hb2
    clear hb2
    go_wp2_with fail
    go_ret
    exact ⟨rfl, B2.out⟩
  by_cases q3 : p < 1
  · clear h
    go_enter Try.func7, Try.ntmps7
    go_wp2_with fail
    refine (AW.out _).mono ?_
    rintro e w2 ⟨rfl, hb2⟩
    have B2 := Lib.hid hb2
    clear hb2
    go_wp2_with fail
    go_ret
    exact ⟨rfl, B2.out⟩
  by_cases q4 : 11 < p
  · clear h
    go_enter Try.func7, Try.ntmps7
    go_wp2_with fail
    refine (AW.out _).mono ?_
    rintro e w2 ⟨rfl, hb2⟩
    have B2 := Lib.hid hb2
    clear hb2
    go_wp2_with fail
    go_ret
    exact ⟨rfl, B2.out⟩
  by_cases q5 : now < 0
  · clear h
    go_enter Try.func7, Try.ntmps7
    go_wp2_with fail
    refine (AW.out _).mono ?_
    rintro e w2 ⟨rfl, hb2⟩
    have B2 := Lib.hid hb2
    clear hb2
    go_wp2_with fail
    go_ret
    exact ⟨rfl, B2.out⟩
  have q6 : 1099511627776 < now := by omega
  clear h
  go_enter Try.func7, Try.ntmps7
  go_wp2_with fail
  refine (AW.out _).mono ?_
  rintro e w2 ⟨rfl, hb2⟩
  have B2 := Lib.hid hb2
  clear hb2
  go_wp2_with fail
  go_ret
  exact ⟨rfl, B2.out⟩

theorem cost_ok {g b c : Nat} {m : Int → Option R3} {n p h0 r D : Int} {w : World} (h : RAt w g b m c) (hw : (Lit.int .i64 n).wf = true) (ho : m n = some (h0, r, D)) (hr : 1 ≤ r ∧ r ≤ 1099511627776) (hp : 1 ≤ p ∧ p ≤ 12) (hrp : r * p ≤ 1099511627776) :
    Calls Try.prog 13 #[.pointer (some ⟨g, 0, none⟩), .int .i64 n, .int .i64 p] w fun e w' => e = .returned (.tuple #[.int .i64 (r * p), .int .i64 0]) ∧ Below w.heap.size w w' := by
  have q := cost_any g b c m n p w h hw (fun d hd => by
    rw [ho] at hd
    cases hd
    exact hr)
  have e : costOf (m n) p = (r * p, 0) := by
    rw [ho]
    unfold costOf
    dsimp only
    rw [if_neg (by unfold okPer; simp; omega), if_pos hrp]
  rw [e] at q
  exact q
theorem pay_ok {g b c : Nat} {m : Int → Option R3} {n p t h0 r D : Int} {w : World} (h : RAt w g b m c) (hw : (Lit.int .i64 n).wf = true) (ho : m n = some (h0, r, D)) (hD : 0 ≤ D ∧ D ≤ 17592186044416) (hp : 1 ≤ p ∧ p ≤ 12) (ht : 0 ≤ t ∧ t ≤ 1099511627776) (hl : D + p * 100 ≤ t + 1200) (hc : c < 1000000) :
    Calls Try.prog 24 #[.pointer (some ⟨g, 0, none⟩), .int .i64 n, .int .i64 p, .int .i64 t] w (ErrP g b (set m n (some (h0, r, D + p * 100))) c 0 w) :=
  pay_yes g b c m n p t w h hw h0 r D ho hD (by
    show (if okPer p = false ∨ okTick t = false then (11 : Int) else if t + 1200 < D + p * 100 then 34 else 0) = 0
    rw [if_neg (by unfold okPer okTick; simp; omega), if_neg (by omega)]) hc
theorem pay_late {g b c : Nat} {m : Int → Option R3} {n p t h0 r D : Int} {w : World} (h : RAt w g b m c) (hw : (Lit.int .i64 n).wf = true) (ho : m n = some (h0, r, D)) (hD : 0 ≤ D ∧ D ≤ 17592186044416) (hp : 1 ≤ p ∧ p ≤ 12) (ht : 0 ≤ t ∧ t ≤ 1099511627776) (hl : t + 1200 < D + p * 100) :
    Calls Try.prog 24 #[.pointer (some ⟨g, 0, none⟩), .int .i64 n, .int .i64 p, .int .i64 t] w (ErrP g b m c 34 w) := by
  have e : payErr (m n) p t = 34 := by
    rw [ho]
    show (if okPer p = false ∨ okTick t = false then (11 : Int) else if t + 1200 < D + p * 100 then 34 else 0) = 34
    rw [if_neg (by unfold okPer okTick; simp; omega), if_pos hl]
  have q := pay_no g b c m n p t w h hw (by rw [e]; decide) (fun d hd => by
    rw [ho] at hd
    cases hd
    exact hD)
  rw [e] at q
  exact q
set_option maxRecDepth 100000 in
set_option maxHeartbeats 8000000 in
theorem walk_yes (w : World) (rate now : Int) (P : Nat) (hr0 : 1 ≤ rate) (hr1 : rate ≤ 68719476736) (hp0 : 1 ≤ P) (hp1 : P ≤ 11) (hn0 : 0 ≤ now) (hn1 : now ≤ 1099511627776) :
    Calls Try.prog 7 #[.int .i64 rate, .int .i64 P, .int .i64 now] w fun e w' => e = .returned (.bool true) ∧ Below w.heap.size w w' := by
  have AW := Lib.hid (fun ws => awake_any ws)
  have NW := Lib.hid (fun ws => new_any ws)
  have mul0 : 0 ≤ rate * (P : Int) := Int.mul_nonneg (by omega) (by omega)
  have mul1 : rate * (P : Int) ≤ 755914244096 := by
    have h1 := Int.mul_le_mul hr1 (show (P : Int) ≤ 11 by omega) (by omega) (by omega)
    omega
  have MU0 := Lib.hid mul0
  have MU1 := Lib.hid mul1
  clear mul0 mul1
  go_enter Try.func7, Try.ntmps7
  go_wp2_with fail
  refine (NW.out w).mono ?_
  rintro e w1 ⟨rfl, hr1_, hb1⟩
  have Z1 := Lib.hid (show w.heap.size + 1 < w1.heap.size from hr1_.blk.lt)
  have B1 := Lib.hid hb1
  go_wp2_with fail
  refine (NW.out w1).mono ?_
  rintro e w2 ⟨rfl, hr2, hb2⟩
  have RA2 := Lib.hid (hr1_.below hb2)
  have RB2 := Lib.hid hr2
  have B2 := Lib.hid (up B1.out hb2 B1.out.size)
  clear hr1_ hb1 hr2 hb2 NW
  have N1 := Lib.hid (show w.heap.size ≠ w1.heap.size ∧ w.heap.size + 1 ≠ w1.heap.size ∧ w1.heap.size ≠ w.heap.size ∧ (w1.heap.size + 1) ≠ w.heap.size ∧ w.heap.size ≤ w1.heap.size by have := Z1.out; omega)
  have A1 := Lib.hid (add_yes (w.heap.size + 1) w.heap.size 0 (fun _ => none) 1 rate now w2 RA2.out (by decide) (by unfold addErr okRate okTick; rw [if_neg (by decide), if_neg (by simp; omega), if_neg (by simp)]) (by decide))
  go_wp2_with fail
  refine A1.out.mono ?_
  rintro e w3 ⟨rfl, hra, hma⟩
  have RA3 := Lib.hid hra
  have RB3 := Lib.hid (RB2.out.other hma N1.out.2.2.1 N1.out.2.2.2.1)
  have B3 := Lib.hid (show Below w.heap.size w w3 from B2.out.trans (hma.to (Nat.le_refl _) B2.out.size))
  have hmA : set (fun _ => none) 1 (some (1, rate, now + 100)) 1 = some ((1, rate, now + 100) : R3) := set_same _ _ _
  have HMA := Lib.hid hmA
  clear hra hma A1 RA2 RB2 hmA
  generalize set (fun _ => none) 1 (some (1, rate, now + 100)) = ma at *
  have A2 := Lib.hid (add_yes (w1.heap.size + 1) w1.heap.size 0 (fun _ => none) 1 rate now w3 RB3.out (by decide) (by unfold addErr okRate okTick; rw [if_neg (by decide), if_neg (by simp; omega), if_neg (by simp)]) (by decide))
  go_wp2_with fail
  refine A2.out.mono ?_
  rintro e w4 ⟨rfl, hrb, hmb⟩
  have RB4 := Lib.hid hrb
  have RA4 := Lib.hid (RA3.out.other hmb N1.out.1 N1.out.2.1)
  have B4 := Lib.hid (show Below w.heap.size w w4 from B3.out.trans (hmb.to N1.out.2.2.2.2 B3.out.size))
  have hmB : set (fun _ => none) 1 (some (1, rate, now + 100)) 1 = some ((1, rate, now + 100) : R3) := set_same _ _ _
  have HMB := Lib.hid hmB
  clear hrb hmb A2 RA3 RB3 hmB
  generalize set (fun _ => none) 1 (some (1, rate, now + 100)) = mb at *
  have C1 := Lib.hid (cost_ok (p := P) RA4.out (by decide) HMA.out ⟨hr0, by omega⟩ ⟨by omega, by omega⟩ (by have := MU1.out; omega))
  go_wp2_with fail
  refine C1.out.mono ?_
  rintro e w5 ⟨rfl, hb5⟩
  have RA5 := Lib.hid (RA4.out.below hb5)
  have RB5 := Lib.hid (RB4.out.below hb5)
  have B5 := Lib.hid (up B4.out hb5 B4.out.size)
  have P1 := Lib.hid (pay_ok (p := P) (t := now) RA5.out (by decide) HMA.out ⟨by omega, by omega⟩ ⟨by omega, by omega⟩ ⟨hn0, hn1⟩ (by omega) (by decide))
  clear hb5 C1 RA4 RB4
  go_wp2_with fail
  refine P1.out.mono ?_
  rintro e w6 ⟨rfl, hra, hma⟩
  have RA6 := Lib.hid hra
  have RB6 := Lib.hid (RB5.out.other hma N1.out.2.2.1 N1.out.2.2.2.1)
  have B6 := Lib.hid (show Below w.heap.size w w6 from B5.out.trans (hma.to (Nat.le_refl _) B5.out.size))
  have HMC := Lib.hid (show set ma 1 (some (1, rate, now + 100 + P * 100)) 1 = some ((1, rate, now + 100 + P * 100) : R3) from set_same _ _ _)
  clear hra hma P1 RA5 RB5 HMA
  generalize set ma 1 (some (1, rate, now + 100 + P * 100)) = mc at *
  go_wp2_with fail
  go_loopw [11, 79] (fun s i wr => ∃ (k : Nat) (W : World) (m : Int → Option R3), W = wr ∧ k ≤ P ∧ i = .int .i64 k ∧ s = .int .i64 (rate * k) ∧ RAt wr (w1.heap.size + 1) w1.heap.size m 1 ∧ m 1 = some (1, rate, now + 100 + k * 100) ∧ Mut w1.heap.size w6 wr) (fun _ i _ => P - (intOf i).toNat)
  case atStart => exact ⟨0, _, mb, rfl, by omega, rfl, by simp, RB6.out, by rw [HMB.out]; simp, Only.refl _ _⟩
  case round =>
  obtain ⟨k, w7, m, rfl, hk, rfl, rfl, hr7, hm7, hu7⟩ := hrel
  have RB7 := Lib.hid hr7
  have HM7 := Lib.hid hm7
  have U7 := Lib.hid hu7
  clear hr7 hm7 hu7
  by_cases hkp : k < P
  · have C1 := Lib.hid (cost_ok (p := 1) RB7.out (by decide) HM7.out ⟨hr0, by omega⟩ ⟨by omega, by omega⟩ (by omega))
    rw [Int.mul_one] at C1
    have z0 : 0 ≤ rate * (k : Int) := Int.mul_nonneg (by omega) (by omega)
    have z1 : rate * (k : Int) ≤ 755914244096 := by
      have h1 := Int.mul_le_mul hr1 (show (k : Int) ≤ 11 by omega) (by omega) (by omega)
      omega
    have ZS := Lib.hid (show rate * (((k + 1 : Nat)) : Int) = rate * (k : Int) + rate by rw [show ((k + 1 : Nat) : Int) = (k : Int) + 1 by omega, Int.mul_add, Int.mul_one])
    generalize rate * (k : Int) = z at *
    go_wp2_with fail
    refine C1.out.mono ?_
    rintro e w8 ⟨rfl, hb8⟩
    have RB8 := Lib.hid (RB7.out.below hb8)
    have U8 := Lib.hid (U7.out.then_ (Mut.of_below hb8))
    have P1 := Lib.hid (pay_ok (p := 1) (t := now) RB8.out (by decide) HM7.out ⟨by omega, by omega⟩ ⟨by omega, by omega⟩ ⟨hn0, hn1⟩ (by omega) (by decide))
    clear hb8 C1 RB7 U7
    go_wp2_with fail
    refine P1.out.mono ?_
    rintro e w9 ⟨rfl, hrb, hmb⟩
    have RB9 := Lib.hid hrb
    have U9 := Lib.hid (U8.out.then_ hmb)
    have HM9 := Lib.hid (show set m 1 (some (1, rate, now + 100 + k * 100 + 1 * 100)) 1 = some ((1, rate, now + 100 + ((k + 1 : Nat) : Int) * 100) : R3) by rw [set_same]; congr 3; omega)
    clear hrb hmb P1 RB8 U8 HM7
    generalize set m 1 (some (1, rate, now + 100 + k * 100 + 1 * 100)) = m9 at *
    go_wp2_with fail
    refine ⟨⟨k + 1, _, m9, rfl, by omega, by go_num, by rw [ZS.out], RB9.out, HM9.out, U9.out⟩, by simp [intOf]; omega⟩
  · obtain rfl : k = P := by omega
    have RA7 := Lib.hid (RA6.out.other U7.out N1.out.1 N1.out.2.1)
    have B7 := Lib.hid (show Below w.heap.size w w7 from B6.out.trans (U7.out.to N1.out.2.2.2.2 B6.out.size))
    have G1 := Lib.hid (get_some RA7.out (by decide) HMC.out)
    clear RA6 RB6 U7 B6
    have z0 := MU0.out
    have z1 := MU1.out
    generalize rate * (k : Int) = z at *
    have dd : now + 100 + (k : Int) * 100 = now + 100 + 100 * (k : Int) := by omega
    have DD := Lib.hid dd
    clear dd
    go_wp2_with fail
    refine G1.out.mono ?_
    rintro e w8 ⟨rfl, hb8⟩
    have hm := made w8 (.cells #[.int .i64 1, .int .i64 rate, .int .i64 (now + 100 + (k : Int) * 100)] 38)
    have RA9 := Lib.hid ((RA7.out.below hb8).below hm)
    have RB9 := Lib.hid ((RB7.out.below hb8).below hm)
    have B9 := Lib.hid (up (up B7.out hb8 B7.out.size) hm (Nat.le_trans B7.out.size hb8.size))
    have X9 := Lib.hid (Blk.new w8 38 #[.int .i64 1, .int .i64 rate, .int .i64 (now + 100 + (k : Int) * 100)])
    clear hb8 hm G1 RA7 RB7
    go_upto_region 18 with fail
    generalize w8.alloc (.cells #[.int .i64 1, .int .i64 rate, .int .i64 (now + 100 + (k : Int) * 100)] 38) = w9 at *
    have G2 := Lib.hid (get_some RB9.out (by decide) HM7.out)
    go_wp2_with fail
    refine G2.out.mono ?_
    rintro e w10 ⟨rfl, hb10⟩
    have hm := made w10 (.cells #[.int .i64 1, .int .i64 rate, .int .i64 (now + 100 + (k : Int) * 100)] 38)
    have RA11 := Lib.hid ((RA9.out.below hb10).below hm)
    have B11 := Lib.hid (up (up B9.out hb10 B9.out.size) hm (Nat.le_trans B9.out.size hb10.size))
    have X11 := Lib.hid ((X9.out.below hb10 X9.out.lt).below hm (Nat.lt_of_lt_of_le X9.out.lt hb10.size))
    have Y11 := Lib.hid (Blk.new w10 38 #[.int .i64 1, .int .i64 rate, .int .i64 (now + 100 + (k : Int) * 100)])
    clear hb10 hm G2 RA9 RB9 X9
    go_upto_region 19 with fail
    generalize w10.alloc (.cells #[.int .i64 1, .int .i64 rate, .int .i64 (now + 100 + (k : Int) * 100)] 38) = w11 at *
    have P2 := Lib.hid (pay_late (p := 12) (t := now) RA11.out (by decide) HMC.out ⟨by omega, by omega⟩ ⟨by omega, by omega⟩ ⟨hn0, hn1⟩ (by omega))
    have x0 := X11.out.cell 0
    have x1 := X11.out.cell 1
    have x2 := X11.out.cell 2
    have y0 := Y11.out.cell 0
    have y1 := Y11.out.cell 1
    have y2 := Y11.out.cell 2
    have tt : (now + 100 + (k : Int) * 100 == now + 100 + 100 * (k : Int)) = true := by simp; omega
    go_wp2_with fail
    refine P2.out.mono ?_
    rintro e w12 ⟨rfl, hra, hma⟩
    have B12 := Lib.hid (show Below w.heap.size w w12 from B11.out.trans (hma.to (Nat.le_refl _) B11.out.size))
    clear hra hma P2 x0 x1 x2 y0 y1 y2 tt
    go_wp2_with fail
    refine (AW.out _).mono ?_
    rintro e w13 ⟨rfl, hb13⟩
    have B13 := Lib.hid (up B12.out hb13 B12.out.size)
    clear hb13
    go_wp2_with fail
    go_ret
    exact ⟨rfl, B13.out⟩

theorem walk (w : World) (rate : Int) (w0 : (Lit.int .i64 rate).wf = true) (p : Int) (w1 : (Lit.int .i64 p).wf = true) (now : Int) (w2 : (Lit.int .i64 now).wf = true) :
    Calls Try.prog 7 #[.int .i64 rate, .int .i64 p, .int .i64 now] w fun e w' => e = .returned (.bool true) ∧ Below w.heap.size w w' := by
  by_cases h : 1 ≤ rate ∧ rate ≤ 68719476736 ∧ 1 ≤ p ∧ p ≤ 11 ∧ 0 ≤ now ∧ now ≤ 1099511627776
  · obtain ⟨h1, h2, h3, h4, h5, h6⟩ := h
    obtain ⟨P, rfl⟩ : ∃ P : Nat, p = P := ⟨p.toNat, by omega⟩
    exact walk_yes w rate now P h1 h2 (by omega) (by omega) h5 h6
  · exact walk_no w rate p now h

set_option maxRecDepth 100000 in
theorem lifted (os : Os) (started : os.Started) (H : Type) (enc : TypeId × Value → H) :
    ReturnsInHanded {} Try.checked os 7 .any (Rows.rentPaysSpec.pre6 enc Try.prog Try.f7 Rows.rentPaysRow.domain false) (Rows.rentPaysSpec.post enc Try.prog Try.f7 false true false false) := by
  refine returnsInHanded_of_change (C := Try.checked) base.own started (by kernel_rfl) Try.func7
    (ChangeSpec.witness6 (enc := enc) (C := Try.checked) false ⟨#[], #[.int .i64 0, .int .i64 0, .int .i64 0], []⟩ 8 (by kernel_rfl) (by kernel_rfl) (by kernel_rfl) (by kernel_rfl)) ?_
  intro W bs args ds gs before hval0 hW _ _
  have hval : ∀ (j : Nat) t v, Try.f7.params[j]? = some t → args[j]? = some v → Value.okWide Try.prog W .any bs t v := hval0
  have hW' : DataW.Whole enc Try.prog Try.f7.params.toList Rows.rentPaysSpec.vars false W args.toList ds gs before := hW
  obtain ⟨p, q, hA0, hV, rfl, _, _⟩ := hW
  have hA : DataW.TrodAll enc Try.prog W 0 (fun _ => true) true Try.f7.params.toList args.toList ds p := hA0
  rw [Try.params7] at hA hval
  obtain ⟨v0, vs0, d0, ds0, p0, q0, hargs, rfl, rfl, h0, r0⟩ := trodAll_cons hA
  obtain ⟨v1, vs1, d1, ds1, p1, q1, rfl, rfl, rfl, h1, r1⟩ := trodAll_cons r0
  obtain ⟨v2, vs2, d2, ds2, p2, q2, rfl, rfl, rfl, h2, r2⟩ := trodAll_cons r1
  obtain ⟨rfl, rfl, rfl⟩ := trodAll_nil r2
  obtain rfl : args = #[v0, v1, v2] := by cases args; simp_all
  obtain ⟨rfl, rfl⟩ := trodVars_none hV
  obtain ⟨a0, rfl, rfl, rfl, w0⟩ := open_int Try.underlying3 (hval 0 3 v0 rfl rfl) h0
  obtain ⟨a1, rfl, rfl, rfl, w1⟩ := open_int Try.underlying3 (hval 1 3 v1 rfl rfl) h1
  obtain ⟨a2, rfl, rfl, rfl, w2⟩ := open_int Try.underlying3 (hval 2 3 v2 rfl rfl) h2
  clear hA0 hval0
  refine (walk W a0 w0 a1 w1 a2 w2).mono fun e W' ⟨he, hb⟩ => ?_
  subst he
  exact ⟨_, rfl, base.law_post base.laid (by kernel_rfl) rfl rfl Try.underlying4 hW' rfl rfl rfl hb⟩

theorem over : Rows.rentPaysRow.holds Try.pinned (OpenSpec.ofChange Rows.rentPaysSpec) :=
  OpenClaim.holds_of_wide 7 Try.f7 rfl rfl rfl rfl rfl rfl rfl ⟨rfl, rfl, rfl, rfl, rfl⟩ rfl rfl rfl rfl rfl (by kernel_rfl) Try.func7 (by kernel_rfl)
    (of_decide_eq_true (by kernel_rfl)) (by unfold Func.isWrapper; first | (rw [if_pos (by decide +kernel)]; kernel_rfl) | (rw [if_neg (by decide +kernel)]; exact ⟨rfl, rfl⟩))
    (fun os started H enc _ => lifted os started H enc)

theorem proved : Rows.RentPaysSaid := over
#print axioms proved
end Go.Proofs.Ytmgfnhbhgmpchaa.rentPays
