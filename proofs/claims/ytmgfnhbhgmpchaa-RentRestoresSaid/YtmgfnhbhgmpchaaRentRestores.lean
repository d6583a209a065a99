/-
  RentRestores: rents are told again from their rows; any rows are refused just if the document says so.
-/
import Derived.Test.YtmgfnhbhgmpchaaRtE
import Derived.Test.YtmgfnhbhgmpchaaRentC
import Derived.Test.YtmgfnhbhgmpchaaStructs
import Derived.Test.YtmgfnhbhgmpchaaBase2
namespace Go.Proofs.Ytmgfnhbhgmpchaa.rentRestores
open Go.ChangeShapes Go.WideShapes Go.ChangeAt Go.RowKit
open rn mk rk
open base (ret_bool ret_int made up Blk Only IntRows)
set_option linter.unusedVariables false
set_option linter.unusedSimpArgs false

theorem wf_nth {m : Nat} {F : Nat → Nat → Int} (hw : ∀ i, i < m → ∀ j, j < 4 → -9223372036854775808 ≤ F i j ∧ F i j ≤ 9223372036854775807) {i : Nat} (hi : i < m) {j : Nat} (hj : j < 4) : (Lit.int .i64 (F i j)).wf = true := mk.wf_of (hw i hi j hj).1 (hw i hi j hj).2
set_option maxRecDepth 100000 in
set_option maxHeartbeats 2000000 in
theorem walk_no (w : World) (A A2 : Option Addr) (n c m c2 : Nat) (hn : n ≤ 9223372036854775807) (hm : m ≤ 9223372036854775807) (h : 60 < n) :
    Calls Try.prog 6 #[.slice A n c, .slice A2 m c2] w fun e w' => e = .returned (.bool true) ∧ Below w.heap.size w w' := by
  have AW := Lib.hid (awake_any w)
  go_enter Try.func6, Try.ntmps6
  go_wp2_with fail
  refine AW.out.mono ?_
  rintro e w2 ⟨rfl, hba⟩
  have BA := Lib.hid hba
  clear hba
  go_wp2_with fail
  go_ret
  exact ⟨rfl, BA.out⟩
set_option maxRecDepth 100000 in
set_option maxHeartbeats 2000000 in
theorem walk_no2 (w : World) (A A2 : Option Addr) (n c m c2 : Nat) (hn : n ≤ 60) (hm : m ≤ 9223372036854775807) (h : 40 < m) :
    Calls Try.prog 6 #[.slice A n c, .slice A2 m c2] w fun e w' => e = .returned (.bool true) ∧ Below w.heap.size w w' := by
  have AW := Lib.hid (awake_any w)
  go_enter Try.func6, Try.ntmps6
  go_wp2_with fail
  refine AW.out.mono ?_
  rintro e w2 ⟨rfl, hba⟩
  have BA := Lib.hid hba
  clear hba
  go_wp2_with fail
  go_ret
  exact ⟨rfl, BA.out⟩
set_option maxRecDepth 100000 in
set_option maxHeartbeats 16000000 in
theorem walk_yes (w : World) (A A2 : Option Addr) (c c2 m : Nat) (D : List R3) (F : Nat → Nat → Int) (hn : Lay E3 w A D) (ok : ∀ x, x ∈ D → okR x) (h1 : IntRows w A2 m 4 F) (hl : D.length ≤ 60) (hm : m ≤ 40) (hw : ∀ i, i < m → ∀ j, j < 4 → -9223372036854775808 ≤ F i j ∧ F i j ≤ 9223372036854775807) :
    Calls Try.prog 6 #[.slice A D.length c, .slice A2 m c2] w fun e w' => e = .returned (.bool true) ∧ Below w.heap.size w w' := by
  have AW := Lib.hid (fun ws => awake_any ws)
  have HN := Lib.hid hn
  have OK := Lib.hid ok
  have NN := Lib.hid h1
  have HW := Lib.hid hw
  clear hn ok h1 hw
  go_enter Try.func6, Try.ntmps6
  go_wp2_with fail
  go_loopw [5, 6, 7, 27] (fun gd la x i wr => ∃ (k : Nat) (W : World), W = wr ∧ k ≤ D.length ∧ i = .int .i64 k ∧ gd = .bool (good D k) ∧ la = .int .i64 (prev D k) ∧ rk.Own E3 wr w.heap.size 42 x (D.take k) ∧ Below w.heap.size w wr) (fun _ _ _ i _ => D.length - (intOf i).toNat)
  case atStart => exact ⟨0, _, rfl, by omega, rfl, rfl, rfl, rk.Own.nil _ _ _, Below.refl _ _⟩
  case round =>
  obtain ⟨k, w2, rfl, hk, rfl, rfl, rfl, ho, hb⟩ := hrel
  have O2 := Lib.hid ho
  have B2 := Lib.hid hb
  clear ho
  by_cases hlt : k < D.length
  · obtain ⟨bb, off, rfl, e0, e1, e2⟩ := lay3 (HN.out.below hb) hlt
    have GS := Lib.hid (good_succ D k)
    have PV := Lib.hid (show prev D (k + 1) = D[k].1 by show (D.getD k (0, 0, 0)).1 = _; rw [getD_at hlt])
    rw [getD_at hlt] at GS
    have ET := Lib.hid (List.take_succ_eq_append_getElem hlt)
    have HT := Lib.hid (show (D.take k).length + 1 ≤ 100000000 by rw [List.length_take]; omega)
    have tl : decide (k < D.length) = true := decide_eq_true hlt
    generalize D[k] = d at *
    obtain ⟨d0, d1, d2⟩ := d
    dsimp only at e0 e1 e2 GS PV
    generalize prev D k = p at *
    have hm3 := made w2 (.cells #[.int .i64 d0, .int .i64 d1, .int .i64 d2] 38)
    have O3 := Lib.hid (rk.Own.below O2.out hm3)
    have B3 := Lib.hid (up B2.out hm3 B2.out.size)
    have Y3 := Lib.hid (Blk.new w2 38 #[.int .i64 d0, .int .i64 d1, .int .i64 d2])
    clear hm3 hb
    go_upto_region 8 with fail
    generalize w2.alloc (.cells #[.int .i64 d0, .int .i64 d1, .int .i64 d2] 38) = w3 at *
    have y0 := Y3.out.cell 0
    have y1 := Y3.out.cell 1
    have y2 := Y3.out.cell 2
    clear e0 e1 e2
    have OA := Lib.hid (O3.out.below (made w3 (.cells #[.int .i64 d0, .int .i64 d1, .int .i64 d2] 42)))
    have LY := Lib.hid (Lay.lit (E := E3) (w3.alloc (.cells #[.int .i64 d0, .int .i64 d1, .int .i64 d2] 42)) (d0, d1, d2) 42 w3.heap.size (Blk.new _ _ _))
    have BA := Lib.hid (up B3.out (made w3 (.cells #[.int .i64 d0, .int .i64 d1, .int .i64 d2] 42)) B3.out.size)
    cases hgd : good D k with
    | false =>
      have GV := Lib.hid (show good D (k + 1) = false from by rw [GS.out, hgd, Bool.false_and])
      clear GS
      go_wp2_with ((with_reducible show wpList _ _ _ (⟨some 63, _, _, _, _, _⟩ :: _) _ _); go_must (refine wp_app TR (c := 1) (n := 1) rfl _ _ rfl rfl rfl rfl rfl OA.out LY.out HT.out BA.out.size ?_))
      intro v7 w7 own7 gr7
      have B7 := Lib.hid (BA.out.trans (gr7.below OA.out BA.out.size))
      rw [← ET.out] at own7
      have O7 := Lib.hid own7
      clear own7 gr7 OA LY BA
      go_wp2_with fail
      refine ⟨⟨k + 1, _, rfl, by omega, by go_num, by rw [GV.out], by rw [PV.out], O7.out, B7.out⟩, by simp [intOf]; omega⟩
    | true =>
      by_cases q0 : p < d0
      · by_cases q1 : 1 ≤ d1
        · by_cases q2 : d1 ≤ 1099511627776
          · by_cases q3 : 0 ≤ d2
            · by_cases q4 : d2 ≤ 4398046511104
              · have GV := Lib.hid (show good D (k + 1) = true from by rw [GS.out, hgd]; simp [okB, okRate]; omega)
                clear GS
                go_wp2_with ((with_reducible show wpList _ _ _ (⟨some 63, _, _, _, _, _⟩ :: _) _ _); go_must (refine wp_app TR (c := 1) (n := 1) rfl _ _ rfl rfl rfl rfl rfl OA.out LY.out HT.out BA.out.size ?_))
                intro v7 w7 own7 gr7
                have B7 := Lib.hid (BA.out.trans (gr7.below OA.out BA.out.size))
                rw [← ET.out] at own7
                have O7 := Lib.hid own7
                clear own7 gr7 OA LY BA
                go_wp2_with fail
                refine ⟨⟨k + 1, _, rfl, by omega, by go_num, by rw [GV.out], by rw [PV.out], O7.out, B7.out⟩, by simp [intOf]; omega⟩
              · have GV := Lib.hid (show good D (k + 1) = false from by rw [GS.out, hgd]; simp [okB, okRate]; omega)
                clear GS
                go_wp2_with ((with_reducible show wpList _ _ _ (⟨some 63, _, _, _, _, _⟩ :: _) _ _); go_must (refine wp_app TR (c := 1) (n := 1) rfl _ _ rfl rfl rfl rfl rfl OA.out LY.out HT.out BA.out.size ?_))
                intro v7 w7 own7 gr7
                have B7 := Lib.hid (BA.out.trans (gr7.below OA.out BA.out.size))
                rw [← ET.out] at own7
                have O7 := Lib.hid own7
                clear own7 gr7 OA LY BA
                go_wp2_with fail
                refine ⟨⟨k + 1, _, rfl, by omega, by go_num, by rw [GV.out], by rw [PV.out], O7.out, B7.out⟩, by simp [intOf]; omega⟩
            · have GV := Lib.hid (show good D (k + 1) = false from by rw [GS.out, hgd]; simp [okB, okRate]; omega)
              clear GS
              go_wp2_with ((with_reducible show wpList _ _ _ (⟨some 63, _, _, _, _, _⟩ :: _) _ _); go_must (refine wp_app TR (c := 1) (n := 1) rfl _ _ rfl rfl rfl rfl rfl OA.out LY.out HT.out BA.out.size ?_))
              intro v7 w7 own7 gr7
              have B7 := Lib.hid (BA.out.trans (gr7.below OA.out BA.out.size))
              rw [← ET.out] at own7
              have O7 := Lib.hid own7
              clear own7 gr7 OA LY BA
              go_wp2_with fail
              refine ⟨⟨k + 1, _, rfl, by omega, by go_num, by rw [GV.out], by rw [PV.out], O7.out, B7.out⟩, by simp [intOf]; omega⟩
          · have GV := Lib.hid (show good D (k + 1) = false from by rw [GS.out, hgd]; simp [okB, okRate]; omega)
            clear GS
            go_wp2_with ((with_reducible show wpList _ _ _ (⟨some 63, _, _, _, _, _⟩ :: _) _ _); go_must (refine wp_app TR (c := 1) (n := 1) rfl _ _ rfl rfl rfl rfl rfl OA.out LY.out HT.out BA.out.size ?_))
            intro v7 w7 own7 gr7
            have B7 := Lib.hid (BA.out.trans (gr7.below OA.out BA.out.size))
            rw [← ET.out] at own7
            have O7 := Lib.hid own7
            clear own7 gr7 OA LY BA
            go_wp2_with fail
            refine ⟨⟨k + 1, _, rfl, by omega, by go_num, by rw [GV.out], by rw [PV.out], O7.out, B7.out⟩, by simp [intOf]; omega⟩
        · have GV := Lib.hid (show good D (k + 1) = false from by rw [GS.out, hgd]; simp [okB, okRate]; omega)
          clear GS
          go_wp2_with ((with_reducible show wpList _ _ _ (⟨some 63, _, _, _, _, _⟩ :: _) _ _); go_must (refine wp_app TR (c := 1) (n := 1) rfl _ _ rfl rfl rfl rfl rfl OA.out LY.out HT.out BA.out.size ?_))
          intro v7 w7 own7 gr7
          have B7 := Lib.hid (BA.out.trans (gr7.below OA.out BA.out.size))
          rw [← ET.out] at own7
          have O7 := Lib.hid own7
          clear own7 gr7 OA LY BA
          go_wp2_with fail
          refine ⟨⟨k + 1, _, rfl, by omega, by go_num, by rw [GV.out], by rw [PV.out], O7.out, B7.out⟩, by simp [intOf]; omega⟩
      · have GV := Lib.hid (show good D (k + 1) = false from by rw [GS.out, hgd]; simp [okB, okRate]; omega)
        clear GS
        go_wp2_with ((with_reducible show wpList _ _ _ (⟨some 63, _, _, _, _, _⟩ :: _) _ _); go_must (refine wp_app TR (c := 1) (n := 1) rfl _ _ rfl rfl rfl rfl rfl OA.out LY.out HT.out BA.out.size ?_))
        intro v7 w7 own7 gr7
        have B7 := Lib.hid (BA.out.trans (gr7.below OA.out BA.out.size))
        rw [← ET.out] at own7
        have O7 := Lib.hid own7
        clear own7 gr7 OA LY BA
        go_wp2_with fail
        refine ⟨⟨k + 1, _, rfl, by omega, by go_num, by rw [GV.out], by rw [PV.out], O7.out, B7.out⟩, by simp [intOf]; omega⟩
  · obtain rfl : k = D.length := by omega
    rw [List.take_length] at O2
    have RE := Lib.hid (restore_any A c D w2 (HN.out.below hb) (by omega) OK.out)
    obtain ⟨Ax, cx, rfl, -⟩ := O2.out.open_
    clear hb
    cases hgd : good D D.length with
    | false =>
      go_wp2_with fail
      refine RE.out.mono ?_
      rintro e w3 hP
      rcases hP with ⟨h, _⟩ | ⟨_, rfl, hb3⟩
      · rw [hgd] at h; cases h
      have B3 := Lib.hid (up B2.out hb3 B2.out.size)
      clear hb3 RE
      go_wp2_with fail
      refine (AW.out _).mono ?_
      rintro e w4 ⟨rfl, hba⟩
      have BA := Lib.hid (up B3.out hba B3.out.size)
      clear hba
      go_wp2_with fail
      go_ret
      exact ⟨rfl, BA.out⟩
    | true =>
      have OKK := Lib.hid (ok_at (Nat.le_refl _) hgd)
      have SD := Lib.hid (show Sd D by have := OKK.out.sd; rwa [List.take_length] at this)
      have GD := Lib.hid (show Gd D by have := OKK.out.gd; rwa [List.take_length] at this)
      have WK := Lib.hid (show Wk D from fun d hd => (OK.out d hd).1)
      go_wp2_with fail
      refine RE.out.mono ?_
      rintro e w3 hP
      rcases hP with ⟨_, rfl, hr3, hb3⟩ | ⟨h, _⟩
      rotate_left
      · rw [hgd] at h; cases h
      have B3 := Lib.hid (up B2.out hb3 B2.out.size)
      have R3_ := Lib.hid hr3
      have O3 := Lib.hid (rk.Own.below O2.out hb3)
      have SA := Lib.hid (same_any hr3 (own_lay O3.out) SD.out WK.out GD.out (c := cx) (by omega))
      clear hb3 hr3 RE OKK hgd
      go_wp2_with fail
      refine SA.out.mono ?_
      rintro e w4 ⟨rfl, hb4⟩
      have B4 := Lib.hid (up B3.out hb4 B3.out.size)
      have R4 := Lib.hid (R3_.out.below hb4)
      have O4 := Lib.hid (rk.Own.below O3.out hb4)
      have Z4 := Lib.hid (show w2.heap.size + 1 < w4.heap.size from R4.out.blk.lt)
      have CP := Lib.hid (copy_any R4.out)
      clear hb4 SA R3_ O3
      go_wp2_with fail
      refine CP.out.mono ?_
      rintro e w5 ⟨g', rfl, hr5, hg5, hb5⟩
      have B5 := Lib.hid (up B4.out hb5 B4.out.size)
      have Q5 := Lib.hid (R4.out.below hb5)
      have R5 := Lib.hid hr5
      have O5 := Lib.hid (rk.Own.below O4.out hb5)
      have Z5 := Lib.hid (show w.heap.size ≤ w4.heap.size from B4.out.size)
      clear hb5 hr5 CP R4 O4
      go_wp2_with fail
      go_loopw [13, 100] (fun y i wr => ∃ (k : Nat) (W : World) (L : List R3) (cn : Nat), W = wr ∧ k ≤ m ∧ i = .int .i64 k ∧ RAt wr g' w4.heap.size (rn.look L) cn ∧ cn ≤ D.length + k ∧ rk.Own E3 wr w.heap.size 42 y L ∧ L.length ≤ D.length + k ∧ Gd L ∧ Sd L ∧ Wk L ∧ Mut w4.heap.size w5 wr) (fun _ i _ => m - (intOf i).toNat)
      case atStart => exact ⟨0, _, D, D.length, rfl, by omega, rfl, R5.out, by omega, O5.out, by omega, GD.out, SD.out, WK.out, Only.refl _ _⟩
      case round =>
      obtain ⟨k, w6, L, cn, rfl, hk, rfl, hr, hcn, ho, hll, hg, hs, hwk, hmu⟩ := hrel
      have R6 := Lib.hid hr
      have O6 := Lib.hid ho
      have GL := Lib.hid hg
      have SL := Lib.hid hs
      have WL := Lib.hid hwk
      have M6 := Lib.hid hmu
      obtain ⟨Ay, cy, rfl, -⟩ := ho.open_
      have C6 := Lib.hid (show Below w.heap.size w w6 from B5.out.trans (hmu.to Z5.out B5.out.size))
      clear hr ho hg hmu hs hwk
      by_cases hkm : k < m
      · obtain ⟨b, off, rfl, _, hcell⟩ := (base.IntRows.keep NN.out C6.out) (by omega)
        have e0 := hcell k hkm 0 (by omega)
        have e1 := hcell k hkm 1 (by omega)
        have e2 := hcell k hkm 2 (by omega)
        have e3 := hcell k hkm 3 (by omega)
        rw [Nat.add_zero] at e0
        have WN := Lib.hid (wf_nth HW.out hkm (show 1 < 4 by omega))
        clear hcell
        generalize F k 0 = k0 at *
        generalize F k 1 = k1 at *
        generalize F k 2 = k2 at *
        generalize F k 3 = k3 at *
        have hm3 := made w6 (.cells #[.int .i64 k0, .int .i64 k1, .int .i64 k2, .int .i64 k3] 28)
        have R7 := Lib.hid (R6.out.below hm3)
        have O7 := Lib.hid (rk.Own.below O6.out hm3)
        have M7 := Lib.hid (M6.out.then_ (Mut.of_below hm3))
        have HS := Lib.hid (Nat.le_trans C6.out.size hm3.size)
        have X7 := Lib.hid (Blk.new w6 28 #[.int .i64 k0, .int .i64 k1, .int .i64 k2, .int .i64 k3])
        clear hm3
        go_upto_region 24 with fail
        generalize w6.alloc (.cells #[.int .i64 k0, .int .i64 k1, .int .i64 k2, .int .i64 k3] 28) = w7 at *
        clear e0 e1 e2 e3
        have o0 := X7.out.cell 0
        have o1 := X7.out.cell 1
        have o2 := X7.out.cell 2
        have o3 := X7.out.cell 3
        have SP := Lib.hid (step_any Ay cy cn L k0 k1 k2 k3 w.heap.size g' w4.heap.size w7 R7.out O7.out (by omega) HS.out Z5.out GL.out WN.out (by omega))
        have SG := Lib.hid (step_good GL.out k0 k1 k2 k3)
        have SS := Lib.hid (step_sd SL.out WL.out k0 k1 k2 k3 WN.out)
        generalize stepS L k0 k1 k2 k3 = L2 at *
        go_wp2_with fail
        refine SP.out.mono ?_
        rintro e w8 ⟨v8, c8, rfl, hr8, hc8, ho8, hm8⟩
        have R8 := Lib.hid hr8
        have O8 := Lib.hid ho8
        have M8 := Lib.hid (M7.out.then_ hm8)
        clear hr8 ho8 hm8 SP o0 o1 o2 o3
        have hsz := SG.out.2
        go_wp2_with fail
        refine ⟨⟨k + 1, _, L2, c8, rfl, by omega, by go_num, R8.out, by omega, O8.out, by omega, SG.out.1, SS.out.1, SS.out.2, M8.out⟩, by simp [intOf]; omega⟩
      · obtain rfl : k = m := by omega
        have S1 := Lib.hid (same_any R6.out (own_lay O6.out) SL.out WL.out GL.out (c := cy) (by omega))
        have Q6 := Lib.hid (Q5.out.other M6.out (by have := Z4.out; omega) (by have := Z4.out; omega))
        have P6 := Lib.hid (own_mut O5.out R5.out.map M6.out)
        have S2 := Lib.hid (fun ws (h : Below w6.heap.size w6 ws) => same_any (c := cx) (Q6.out.below h) (own_lay (rk.Own.below P6.out h)) SD.out WK.out GD.out (by omega))
        clear NN HW HN OK R5 O5 Q5 M6 R6 O6
        go_wp2_with fail
        refine S1.out.mono ?_
        rintro e w7 ⟨rfl, hb7⟩
        have B7 := Lib.hid (up C6.out hb7 C6.out.size)
        have S3 := Lib.hid (S2.out _ hb7)
        clear hb7 S1 S2
        go_wp2_with fail
        refine S3.out.mono ?_
        rintro e w8 ⟨rfl, hb8⟩
        have B8 := Lib.hid (up B7.out hb8 B7.out.size)
        clear hb8 S3
        go_wp2_with fail
        refine (AW.out _).mono ?_
        rintro e w9 ⟨rfl, hba⟩
        have BA := Lib.hid (up B8.out hba B8.out.size)
        clear hba
        go_wp2_with fail
        go_ret
        exact ⟨rfl, BA.out⟩
theorem walk (w : World) (A : Option Addr) (c : Nat) (D : List R3) (hn : Lay E3 w A D) (hc : D.length ≤ c) (hmx : c ≤ maxLen) (ok : ∀ x, x ∈ D → okR x) (A2 : Option Addr) (m c2 : Nat) (F : Nat → Nat → Int) (h1 : IntRows w A2 m 4 F) (hc2 : m ≤ c2) (hm : c2 ≤ maxLen) (hw : ∀ i, i < m → ∀ j, j < 4 → -9223372036854775808 ≤ F i j ∧ F i j ≤ 9223372036854775807) :
    Calls Try.prog 6 #[.slice A D.length c, .slice A2 m c2] w fun e w' => e = .returned (.bool true) ∧ Below w.heap.size w w' := by
  unfold maxLen at hm hmx
  by_cases q : 60 < D.length
  · exact walk_no w A A2 D.length c m c2 (by omega) (by omega) q
  · by_cases q2 : 40 < m
    · exact walk_no2 w A A2 D.length c m c2 (by omega) (by omega) q2
    · exact walk_yes w A A2 c c2 m D F hn ok h1 (by omega) (by omega) hw

set_option maxRecDepth 100000 in
theorem lifted (os : Os) (started : os.Started) (H : Type) (enc : TypeId × Value → H) :
    ReturnsInHanded {} Try.checked os 6 .any (Rows.rentRestoresSpec.pre6 enc Try.prog Try.f6 Rows.rentRestoresRow.domain false) (Rows.rentRestoresSpec.post enc Try.prog Try.f6 false true false false) := by
  refine returnsInHanded_of_change (C := Try.checked) base.own started (by kernel_rfl) Try.func6
    (ChangeSpec.witness6 (enc := enc) (C := Try.checked) false ⟨#[], #[.slice none 0 0, .slice none 0 0], []⟩ 8 (by kernel_rfl) (by kernel_rfl) (by kernel_rfl) (by kernel_rfl)) ?_
  intro W bs args ds gs before hval0 hW _ _
  have hval : ∀ (j : Nat) t v, Try.f6.params[j]? = some t → args[j]? = some v → Value.okWide Try.prog W .any bs t v := hval0
  have hW' : DataW.Whole enc Try.prog Try.f6.params.toList Rows.rentRestoresSpec.vars false W args.toList ds gs before := hW
  obtain ⟨p, q, hA0, hV, rfl, _, _⟩ := hW
  have hA : DataW.TrodAll enc Try.prog W 0 (fun _ => true) true Try.f6.params.toList args.toList ds p := hA0
  rw [Try.params6] at hA hval
  obtain ⟨v0, vs0, d0, ds0, p0, q0, hargs, rfl, rfl, h0, r0⟩ := trodAll_cons hA
  obtain ⟨v1, vs1, d1, ds1, p1, q1, rfl, rfl, rfl, h1, r1⟩ := trodAll_cons r0
  obtain ⟨rfl, rfl, rfl⟩ := trodAll_nil r1
  obtain rfl : args = #[v0, v1] := by cases args; simp_all
  obtain ⟨rfl, rfl⟩ := trodVars_none hV
  obtain ⟨A0, c0, D0, rfl, b0, m0, n0, o0⟩ := rn.open_rows (hval 0 50 v0 rfl rfl) h0
  obtain ⟨A1, k1, c1, F1, rfl, b1, m1, n1, w1⟩ := base.open_introws 4 Try.underlying22 Try.underlying28 (by kernel_rfl) (by kernel_rfl) rfl (by omega) (by intro j f hj; rcases j with _ | _ | _ | _ | j <;> simp at hj <;> (subst hj; exact Try.underlying3)) (hval 1 22 v1 rfl rfl) h1
  clear hA0 hval0
  refine (walk W A0 c0 D0 n0 b0 m0 o0 A1 k1 c1 F1 n1 b1 m1 w1).mono fun e W' ⟨he, hb⟩ => ?_
  subst he
  exact ⟨_, rfl, base.law_post base.laid (by kernel_rfl) rfl rfl Try.underlying4 hW' rfl rfl rfl hb⟩

theorem over : Rows.rentRestoresRow.holds Try.pinned (OpenSpec.ofChange Rows.rentRestoresSpec) :=
  OpenClaim.holds_of_wide 6 Try.f6 rfl rfl rfl rfl rfl rfl rfl ⟨rfl, rfl, rfl, rfl, rfl⟩ rfl rfl rfl rfl rfl (by kernel_rfl) Try.func6 (by kernel_rfl)
    (of_decide_eq_true (by kernel_rfl)) (by unfold Func.isWrapper; first | (rw [if_pos (by decide +kernel)]; kernel_rfl) | (rw [if_neg (by decide +kernel)]; exact ⟨rfl, rfl⟩))
    (fun os started H enc _ => lifted os started H enc)

theorem proved : Rows.RentRestoresSaid := over
#print axioms proved
end Go.Proofs.Ytmgfnhbhgmpchaa.rentRestores
