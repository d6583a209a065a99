/-
  ChestRestores: chests are told again from their rows; any rows are refused just if the document says so.
-/
import Derived.Test.YtknkcdhdfojifaaChT
import Derived.Test.YtknkcdhdfojifaaChM
import Derived.Test.YtknkcdhdfojifaaChG
import Derived.Test.YtknkcdhdfojifaaBase2
import Derived.Deep.CutRange
namespace Go.Proofs.Ytknkcdhdfojifaa.chestRestores
open Go.ChangeShapes Go.WideShapes Go.ChangeAt Go.RowKit
open ch mk rk
open base (ret_bool ret_int made up Blk Only)
set_option linter.unusedVariables false
set_option linter.unusedSimpArgs false

set_option maxRecDepth 100000 in
set_option maxHeartbeats 2000000 in
theorem walk_no (w : World) (A : Option Addr) (c : Nat) (D : List DR) (hm : D.length ≤ 9223372036854775807) (h : 40 < D.length) :
    Calls Try.prog 5 #[.slice A D.length c] w fun e w' => e = .returned (.bool true) ∧ Below w.heap.size w w' := by
  have AW := Lib.hid (fun ws => awake_any ws)
  have B0 := Lib.hid (Below.refl w.heap.size w)
  generalize D.length = m at *
  go_enter Try.func5, Try.ntmps5
  go_wp2_with fail
  refine (AW.out _).mono ?_
  rintro e w2 ⟨rfl, hba⟩
  have BA := Lib.hid (up B0.out hba B0.out.size)
  clear hba
  go_wp2_with fail
  go_ret
  exact ⟨rfl, BA.out⟩
theorem all_snoc (M : List Int) (r : Int) (q : Bool) : (q && (M ++ [r]).all oki) = ((q && M.all oki) && oki r) := by simp [Bool.and_assoc]
/-- behind the loop -/
structure Fin (w wr : World) (D : List DR) (x : Value) (A : Option Addr) : Prop where
  o : Own E2 wr w.heap.size 37 x (fl D)
  b : Below w.heap.size w wr
  l : (fl D).length ≤ 800
  z : ∀ d, d ∈ D → d.2.length ≤ 20
set_option maxRecDepth 100000 in
set_option maxHeartbeats 4000000 in
theorem walk_yes (w : World) (A : Option Addr) (c : Nat) (D : List DR) (hA : ch.RowsIn w A D) (hl : D.length ≤ 40) :
    Calls Try.prog 5 #[.slice A D.length c] w fun e w' => e = .returned (.bool true) ∧ Below w.heap.size w w' := by
  have AW := Lib.hid (fun ws => awake_any ws)
  have HA := Lib.hid hA
  clear hA
  go_enter Try.func5, Try.ntmps5
  go_wp2_with fail
  go_loopw [3, 4, 5, 22] (fun bw la x i wr => ∃ (k : Nat) (W : World), W = wr ∧ k ≤ D.length ∧ i = .int .i64 k ∧ bw = .bool (st (D.take k)).2 ∧ la = .int .i64 (st (D.take k)).1 ∧ rk.Own E2 wr w.heap.size 37 x (fl (D.take k)) ∧ (∀ d, d ∈ D.take k → d.2.length ≤ 20) ∧ (fl (D.take k)).length ≤ 20 * k ∧ Below w.heap.size w wr) (fun _ _ _ i _ => D.length - (intOf i).toNat)
  case atStart => exact ⟨0, _, rfl, by omega, rfl, rfl, rfl, rk.Own.nil _ _ _, fun d hd => (by cases hd), by simp [fl], Below.refl _ _⟩
  case round =>
  obtain ⟨k, w2, rfl, hk, rfl, rfl, rfl, ho, hz20, hfl, hb2⟩ := hrel
  have O2 := Lib.hid ho
  have B2 := Lib.hid hb2
  have Z2 := Lib.hid hz20
  have F2 := Lib.hid hfl
  obtain ⟨Ax, cx, rfl, -⟩ := ho.open_
  clear ho hb2 hz20 hfl
  by_cases hkl : k < D.length
  · obtain ⟨bb, off, rfl, r0, r1⟩ := (HA.out.below B2.out).at_ hkl
    obtain ⟨hlay, hlen, hwf⟩ := HA.out.row D[k] (List.getElem_mem hkl)
    have SS := Lib.hid (show st (D.take (k + 1)) = (D[k].1.1, (st (D.take k)).2 && okD (st (D.take k)).1 D[k]) by rw [tk D hkl, st_snoc])
    have FS := Lib.hid (show fl (D.take (k + 1)) = fl (D.take k) ++ D[k].2.map (fun r => (D[k].1.1, r)) by rw [tk D hkl, fl_snoc])
    have ZS := Lib.hid (show ∀ d, d ∈ D.take (k + 1) → d ∈ D.take k ∨ d = D[k] by
      intro d hd
      rw [tk D hkl] at hd
      rcases List.mem_append.1 hd with h | h
      · exact .inl h
      · exact .inr (by simpa using h))
    have KL := Lib.hid hkl
    generalize D[k] = d at *
    obtain ⟨⟨n, A4, z4, c4⟩, N⟩ := d
    dsimp only at hlay hlen r0 r1
    have N0 := Lib.hid hlay
    have ZN := Lib.hid hlen
    have hm3 := made w2 (.cells #[.int .i64 n, .slice A4 z4 c4] 45)
    have O3 := Lib.hid (rk.Own.below O2.out hm3)
    have B3 := Lib.hid (up B2.out hm3 B2.out.size)
    have X3 := Lib.hid (Blk.new w2 45 #[.int .i64 n, .slice A4 z4 c4])
    clear hm3 hlay hlen hwf O2 B2
    obtain ⟨la, hla⟩ : ∃ la, (st (D.take k)).1 = la := ⟨_, rfl⟩
    obtain ⟨sb, hsb⟩ : ∃ sb, (st (D.take k)).2 = sb := ⟨_, rfl⟩
    rw [hla, hsb] at SS
    rw [hla, hsb]
    clear hla hsb
    go_upto_region 8 with fail
    generalize w2.alloc (.cells #[.int .i64 n, .slice A4 z4 c4] 45) = w3 at *
    clear r0 r1
    have x0 := X3.out.cell 0
    have x1 := X3.out.cell 1
    by_cases q20 : 20 < z4
    · go_wp2_with fail
      refine (AW.out _).mono ?_
      rintro e w4 ⟨rfl, hba⟩
      have BA := Lib.hid (up B3.out hba B3.out.size)
      clear hba
      go_wp2_with fail
      go_ret
      exact ⟨rfl, BA.out⟩
    go_upto_region 10 with fail
    obtain ⟨q, hq⟩ : ∃ q : Bool, q = (sb && (decide (la < n) && decide (1 ≤ z4) && decide (z4 ≤ 4))) := ⟨_, rfl⟩
    have HQ := Lib.hid hq
    clear hq
    go_cut [3] from 31 to 49 (fun s3 wx => s3 = .bool q ∧ wx = w3)
    case first =>
      cases sb with
      | false =>
        obtain rfl : q = false := HQ.out
        go_wp2_with fail
        go_meet
        case rel => exact ⟨rfl, rfl⟩
      | true =>
        by_cases g1 : la < n
        · have a1 : decide (la < n) = true := by simpa using g1
          have b1 : decide (n > la) = true := by simpa using g1
          by_cases g2 : 1 ≤ z4
          · have a2 : decide ((1 : Int) ≤ (z4 : Int)) = true := by simp; omega
            have b2 : decide (1 ≤ z4) = true := by simpa using g2
            by_cases g3 : z4 ≤ 4
            · have a3 : decide ((z4 : Int) ≤ 4) = true := by simp; omega
              have b3 : decide (z4 ≤ 4) = true := by simpa using g3
              obtain rfl : q = true := by rw [HQ.out, a1, b2, b3]; rfl
              go_wp2_with fail
              go_meet
              case rel => exact ⟨rfl, rfl⟩
            · have a3 : decide ((z4 : Int) ≤ 4) = false := by simp; omega
              have b3 : decide (z4 ≤ 4) = false := by simpa using g3
              obtain rfl : q = false := by rw [HQ.out, a1, b2, b3]; rfl
              go_wp2_with fail
              go_meet
              case rel => exact ⟨rfl, rfl⟩
          · have a2 : decide ((1 : Int) ≤ (z4 : Int)) = false := by simp; omega
            have b2 : decide (1 ≤ z4) = false := by simpa using g2
            obtain rfl : q = false := by rw [HQ.out, a1, b2]; rfl
            go_wp2_with fail
            go_meet
            case rel => exact ⟨rfl, rfl⟩
        · have a1 : decide (la < n) = false := by simpa using g1
          have b1 : decide (n > la) = false := by simpa using g1
          obtain rfl : q = false := by rw [HQ.out, a1]; rfl
          go_wp2_with fail
          go_meet
          case rel => exact ⟨rfl, rfl⟩
    case rest =>
    obtain ⟨rfl, hw⟩ := hcut
    rw [hw]
    clear hw
    go_wp2_with fail
    go_loopw [3, 5, 55] (fun bw x i wr => ∃ (t : Nat) (W : World), W = wr ∧ t ≤ z4 ∧ i = .int .i64 t ∧ bw = .bool (q && (N.take t).all oki) ∧ rk.Own E2 wr w.heap.size 37 x (fl (D.take k) ++ (N.take t).map (fun r => (n, r))) ∧ Below w.heap.size w wr ∧ Blk wr w2.heap.size 45 #[.int .i64 n, .slice A4 z4 c4]) (fun _ _ i _ => z4 - (intOf i).toNat)
    case atStart => exact ⟨0, _, rfl, by omega, rfl, by simp, by simpa using O3.out, B3.out, X3.out⟩
    case round =>
      obtain ⟨t, w4, rfl, ht, rfl, rfl, ho4, hb4, hx4⟩ := hrel
      have B4 := Lib.hid hb4
      have X4 := Lib.hid hx4
      have N4 := Lib.hid (N0.out.below hb4)
      have MLEN := Lib.hid (show (fl (D.take k) ++ (N.take t).map (fun r => (n, r))).length ≤ 20 * k + t by
        have := F2.out
        simp
        omega)
      clear hb4 hx4 x0 x1
      have x0 := X4.out.cell 0
      have x1 := X4.out.cell 1
      by_cases htz : t < z4
      · have htn : t < N.length := by rw [← ZN.out]; exact htz
        obtain ⟨bN, offN, rfl, s0⟩ := lay1 N4.out htn
        have TKQ := Lib.hid (tk N htn)
        have AL := Lib.hid (show (q && (N.take (t + 1)).all oki) = ((q && (N.take t).all oki) && oki N[t]) by rw [TKQ.out]; exact all_snoc _ _ _)
        have ESN := Lib.hid (show fl (D.take k) ++ (N.take (t + 1)).map (fun r => (n, r)) = (fl (D.take k) ++ (N.take t).map (fun r => (n, r))) ++ [(n, N[t])] by
          rw [TKQ.out, List.map_append, List.append_assoc]
          rfl)
        generalize fl (D.take k) ++ (N.take t).map (fun r => (n, r)) = M at *
        generalize (q && (N.take t).all oki) = pb at *
        generalize N[t] = r at *
        have O4 := Lib.hid ho4
        obtain ⟨Am, cm, rfl, -⟩ := ho4.open_
        have RN := Lib.hid (fun ws => rneed_any r ws)
        obtain ⟨q2, hq2⟩ : ∃ q2 : Bool, q2 = (pb && oki r) := ⟨_, rfl⟩
        rw [← hq2] at AL
        have HQ2 := Lib.hid hq2
        clear hq2 ho4
        go_upto_region 15 with fail
        go_cut [3] from 59 to 63 (fun s3 wx => s3 = .bool q2 ∧ wx = w4)
        case first =>
          cases pb with
          | false =>
            obtain rfl : q2 = false := HQ2.out
            go_wp2_with fail
            go_meet
            case rel => exact ⟨rfl, rfl⟩
          | true =>
            rw [show oki r = q2 from HQ2.out.symm] at RN
            go_wp2_with fail
            refine (RN.out _).mono ?_
            rintro e w5 ⟨rfl, rfl⟩
            go_wp2_with fail
            go_meet
            case rel => exact ⟨rfl, rfl⟩
        case rest =>
        obtain ⟨rfl, hw⟩ := hcut
        rw [hw]
        clear hw
        have hm6 := made w4 (.cells #[.int .i64 n, .int .i64 r] 37)
        have O6 := Lib.hid (rk.Own.below O4.out hm6)
        have LY := Lib.hid (Lay.lit (E := E2) (w4.alloc (.cells #[.int .i64 n, .int .i64 r] 37)) (n, r) 37 w4.heap.size (Blk.new _ _ _))
        have B6 := Lib.hid (up B4.out hm6 B4.out.size)
        have HT := Lib.hid (show M.length + 1 ≤ 100000000 by have := MLEN.out; omega)
        have SZ := Lib.hid (show w.heap.size ≤ (w4.alloc (.cells #[.int .i64 n, .int .i64 r] 37)).heap.size from B6.out.size)
        clear hm6
        go_wp2_with ((with_reducible show wpList _ _ _ (⟨some 70, _, _, _, _, _⟩ :: _) _ _); go_must (refine wp_app T2 (c := 1) (n := 1) rfl _ _ rfl rfl rfl rfl rfl O6.out LY.out HT.out SZ.out ?_))
        intro v7 w7 own7 gr7
        have O7 := Lib.hid own7
        obtain ⟨A7, c7, rfl, -⟩ := own7.open_
        have B7 := Lib.hid (B6.out.trans (gr7.below O6.out SZ.out))
        have X7 := Lib.hid ((X4.out.alloc (.cells #[.int .i64 n, .int .i64 r] 37)).grown gr7.grown (fun e => by
          obtain ⟨_, _, cs, hb⟩ := Own.lt' O6.out _ e.symm
          exact ty_ne hb (X4.out.alloc (.cells #[.int .i64 n, .int .i64 r] 37)) (by decide) rfl))
        clear own7 gr7 O6 LY B6 HT SZ x0 x1 s0
        go_wp2_with fail
        refine ⟨⟨t + 1, _, rfl, by omega, by go_num, by rw [AL.out], by rw [ESN.out]; exact O7.out, B7.out, X7.out⟩, by simp [intOf]; omega⟩
      · obtain rfl : t = z4 := by omega
        have E1_ := Lib.hid (show (q && (N.take t).all oki) = (st (D.take (k + 1))).2 by
          rw [SS.out, HQ.out, ZN.out, List.take_length]
          unfold okD
          simp [Bool.and_assoc])
        have E2_ := Lib.hid (show n = (st (D.take (k + 1))).1 by rw [SS.out])
        have E3_ := Lib.hid (show fl (D.take k) ++ (N.take t).map (fun r => (n, r)) = fl (D.take (k + 1)) by rw [FS.out, ZN.out, List.take_length])
        have E4_ := Lib.hid (show (fl (D.take (k + 1))).length ≤ 20 * (k + 1) by
          rw [← E3_.out]
          have := MLEN.out
          omega)
        have E5_ := Lib.hid (show ∀ d, d ∈ D.take (k + 1) → d.2.length ≤ 20 from fun d hd => by
          rcases ZS.out d hd with h | h
          · exact Z2.out d h
          · subst h
            dsimp only
            rw [← ZN.out]
            omega)
        have hkl2 := KL.out
        rw [E1_.out] 
        rw [E3_.out] at ho4
        go_wp2_with fail
        refine ⟨⟨k + 1, _, rfl, by omega, by go_num, rfl, by rw [E2_.out], ho4, E5_.out, E4_.out, B4.out⟩, by simp [intOf]; omega⟩
  · obtain rfl : k = D.length := by omega
    rw [List.take_length] at O2 Z2 F2 ⊢
    have HL8 := Lib.hid (show (fl D).length ≤ 800 by have := F2.out; omega)
    have RE := Lib.hid (restore_any A c D w2 (HA.out.below B2.out) (by have := HL8.out; omega) (by omega) (fun d hd => by have := Z2.out d hd; omega))
    cases hst : (st D).2 with
    | false =>
      go_wp2_with fail
      refine RE.out.mono ?_
      rintro e w3 ⟨hb3, ⟨-, rfl⟩ | ⟨h, -⟩⟩
      · have B3 := Lib.hid (up B2.out hb3 B2.out.size)
        clear hb3
        go_wp2_with fail
        refine (AW.out _).mono ?_
        rintro e w4 ⟨rfl, hba⟩
        have BA := Lib.hid (up B3.out hba B3.out.size)
        clear hba
        go_wp2_with fail
        go_ret
        exact ⟨rfl, BA.out⟩
      · rw [hst] at h
        cases h
    | true =>
      go_wp2_with fail
      refine RE.out.mono ?_
      rintro e w3 ⟨hb3, ⟨h, -⟩ | ⟨-, rfl, c3, hd3, hc3⟩⟩
      · rw [hst] at h
        cases h
      have GD := Lib.hid (gd_fl hst (fun d hd => (HA.out.row d hd).2.2))
      have FOUR := Lib.hid (nd_four hst)
      have D3 := Lib.hid hd3
      have O3 := Lib.hid (rk.Own.below O2.out hb3)
      have B3 := Lib.hid (up B2.out hb3 B2.out.size)
      clear hb3 hd3 hst RE O2 B2 F2 Z2 HA
      generalize fl D = LL at *
      have SA := Lib.hid (same_any (c := cx) D3.out (layE O3.out) (by have := HL8.out; omega) (by have := HL8.out; omega) GD.out)
      go_wp2_with fail
      refine SA.out.mono ?_
      rintro e w5 ⟨rfl, hb5⟩
      have D5 := Lib.hid (D3.out.below hb5)
      have O5 := Lib.hid (rk.Own.below O3.out hb5)
      have B5 := Lib.hid (up B3.out hb5 B3.out.size)
      clear hb5 SA D3 O3 B3
      have RO := Lib.hid (rows_any D5.out (by have := HL8.out; omega) (by have := HL8.out; omega))
      go_wp2_with fail
      refine RO.out.mono ?_
      rintro e w6 ⟨v6, ss, R, rfl, ht6, hs6, hlen6, hb6⟩
      have OR := Lib.hid ht6.own
      have NR := Lib.hid (ht6.ndl hs6)
      have B6 := Lib.hid hb6
      have RLB := Lib.hid (show R.length ≤ 1000 by have := ht6.len; have := HL8.out; omega)
      obtain ⟨Ar, cr, rfl, -⟩ := ht6.own.open_
      clear ht6 hs6 hb6 RO
      go_wp2_with fail
      go_loopw [104] (fun i wr => ∃ (t : Nat) (W : World), W = wr ∧ t ≤ R.length ∧ i = .int .i64 t ∧ rk.Own ER wr w5.heap.size 45 (.slice Ar R.length cr) R ∧ (∀ d, d ∈ R → Ndl wr w5.heap.size d) ∧ Below w5.heap.size w5 wr) (fun i _ => R.length - (intOf i).toNat)
      case atStart => exact ⟨0, _, rfl, by omega, rfl, OR.out, NR.out, B6.out⟩
      case round =>
        obtain ⟨t, w7, rfl, ht, rfl, hor, hnr, hb7⟩ := hrel
        have OR7 := Lib.hid hor
        have NR7 := Lib.hid hnr
        have B7 := Lib.hid hb7
        clear hor hnr hb7 OR NR B6
        by_cases htl : t < R.length
        · obtain ⟨bb, off, rfl, r0, r1⟩ := layR (layE OR7.out) htl
          obtain ⟨h1, g, cs, h2, h3, h4, h5⟩ := NR7.out R[t] (List.getElem_mem htl)
          have TL := Lib.hid htl
          generalize R[t] = d at *
          obtain ⟨n, A4, z4, c4⟩ := d
          dsimp only at h1 h2 r0 r1
          subst h2
          have hm8 := made w7 (.cells #[.int .i64 n, .slice (some ⟨g, 0, none⟩) z4 c4] 45)
          have OR8 := Lib.hid (rk.Own.below OR7.out hm8)
          have NR8 := Lib.hid (fun d hd => (NR7.out d hd).below hm8)
          have B8 := Lib.hid (up B7.out hm8 B7.out.size)
          have X8 := Lib.hid (Blk.new w7 45 #[.int .i64 n, .slice (some ⟨g, 0, none⟩) z4 c4])
          have G8 := Lib.hid (h3.below hm8 h3.lt)
          have H5 := Lib.hid h5
          have cx0 := h3.below hm8 h3.lt
          have cx1 := cx0.cell 0
          have cx2 := cx0.free 0
          rw [Array.getElem?_eq_getElem (by omega)] at cx1
          generalize cs[0] = u0 at *
          clear hm8 h3 h5 cx0 OR7 NR7 B7
          go_upto_region 27 with fail
          generalize w7.alloc (.cells #[.int .i64 n, .slice (some ⟨g, 0, none⟩) z4 c4] 45) = w8 at *
          clear r0 r1
          have x1 := X8.out.cell 1
          have OR9 := Lib.hid (show rk.Own ER (w8.setCell ⟨g, 0, none⟩ (.int .i64 9)) w5.heap.size 45 (.slice (some ⟨bb, off, none⟩) R.length cr) R from OR8.out.keep (fun j hj => Below.heap_setCell _ _ _ _ (by
            obtain ⟨_, _, cs2, hb2⟩ := Own.lt' OR8.out j hj
            exact ty_ne hb2 G8.out (by decide))))
          have NR9 := Lib.hid (show ∀ d, d ∈ R → Ndl (w8.setCell ⟨g, 0, none⟩ (.int .i64 9)) w5.heap.size d from fun d hd => (NR8.out d hd).set _)
          have B9 := Lib.hid (show Below w5.heap.size w5 (w8.setCell ⟨g, 0, none⟩ (.int .i64 9)) from B8.out.setCell (p := ⟨g, 0, none⟩) H5.out _)
          clear OR8 NR8 B8 G8 h4
          have htl := TL.out
          have hrb := RLB.out
          go_wp2_with fail
          refine ⟨⟨t + 1, _, rfl, by omega, by go_num, OR9.out, NR9.out, B9.out⟩, by simp [intOf]; omega⟩
        · have D7 := Lib.hid (D5.out.below B7.out)
          have O7 := Lib.hid (rk.Own.below O5.out B7.out)
          have C7 := Lib.hid (up B5.out B7.out B5.out.size)
          have RO2 := Lib.hid (rows_any D7.out (by have := HL8.out; omega) (by have := HL8.out; omega))
          clear OR7 NR7 B7 D5 O5 B5
          go_wp2_with fail
          refine RO2.out.mono ?_
          rintro e w9 ⟨v9, ss9, R9, rfl, ht9, hs9, hlen9, hb9⟩
          obtain ⟨A9, c9, rfl, -⟩ := ht9.own.open_
          have hbl : (back LL R9).length = R9.length := by simp [back]
          have hfl : (fl (back LL R9)).length ≤ 800 := by
            rw [fl_back, len_fl2, ht9.hs]
            exact Nat.le_trans (tot_le _ _ (hs9.lt.imp (fun h => by omega))) HL8.out
          have HFL := Lib.hid hfl
          have RE2 := Lib.hid (restore_any A9 c9 (back LL R9) w9 (back_in ht9 hs9) (by omega) (by have := HL8.out; have := ht9.len; omega) (fun d hd => by
            obtain ⟨x, _, rfl⟩ := List.mem_map.1 hd
            have := nd_len LL x.1
            have := HL8.out
            dsimp only
            omega))
          rw [hbl] at RE2
          have ST2 := Lib.hid (st_back GD.out FOUR.out R9 (by rw [ht9.hs]; exact hs9))
          have ND2 := Lib.hid (back_nd GD.out ht9.hs hs9)
          have D9 := Lib.hid (D7.out.below hb9)
          have O9 := Lib.hid (rk.Own.below O7.out hb9)
          have C9 := Lib.hid (up C7.out hb9 C7.out.size)
          clear ht9 hs9 hb9 hbl hfl RO2 D7 O7 C7
          go_wp2_with fail
          refine RE2.out.mono ?_
          rintro e w10 ⟨hb10, ⟨h, -⟩ | ⟨-, rfl, c10, hd10, hc10⟩⟩
          · have := ST2.out
            rw [h] at this
            cases this
          have D10 := Lib.hid (D9.out.below hb10)
          have O10 := Lib.hid (rk.Own.below O9.out hb10)
          have C10 := Lib.hid (up C9.out hb10 C9.out.size)
          have SB := Lib.hid (same_any (c := cx) (hd10.congr ND2.out) (layE O10.out) (by have := HL8.out; omega) (by have := HFL.out; omega) GD.out)
          clear hb10 hd10 RE2 D9 O9 C9
          go_wp2_with fail
          refine SB.out.mono ?_
          rintro e w11 ⟨rfl, hb11⟩
          have D11 := Lib.hid (D10.out.below hb11)
          have O11 := Lib.hid (rk.Own.below O10.out hb11)
          have C11 := Lib.hid (up C10.out hb11 C10.out.size)
          have SC := Lib.hid (same_any (c := cx) D11.out (layE O11.out) (by have := HL8.out; omega) (by have := HL8.out; omega) GD.out)
          clear hb11 SB D10 O10 C10
          go_wp2_with fail
          refine SC.out.mono ?_
          rintro e w12 ⟨rfl, hb12⟩
          have C12 := Lib.hid (up C11.out hb12 C11.out.size)
          clear hb12 SC
          go_wp2_with fail
          refine (AW.out _).mono ?_
          rintro e w13 ⟨rfl, hba⟩
          have BA := Lib.hid (up C12.out hba C12.out.size)
          clear hba
          go_wp2_with fail
          go_ret
          exact ⟨rfl, BA.out⟩

theorem walk (w : World) (A : Option Addr) (c : Nat) (D : List DR) (hA : ch.RowsIn w A D) (hc : D.length ≤ c) (hm : c ≤ maxLen) :
    Calls Try.prog 5 #[.slice A D.length c] w fun e w' => e = .returned (.bool true) ∧ Below w.heap.size w w' := by
  unfold maxLen at hm
  by_cases q : 40 < D.length
  · exact walk_no w A c D (by omega) q
  · exact walk_yes w A c D hA (by omega)

set_option maxRecDepth 100000 in
theorem lifted (os : Os) (started : os.Started) (H : Type) (enc : TypeId × Value → H) :
    ReturnsInHanded {} Try.checked os 5 .any (Rows.chestRestoresSpec.pre6 enc Try.prog Try.f5 Rows.chestRestoresRow.domain false) (Rows.chestRestoresSpec.post enc Try.prog Try.f5 false true false false) := by
  refine returnsInHanded_of_change (C := Try.checked) base.own started (by kernel_rfl) Try.func5
    (ChangeSpec.witness6 (enc := enc) (C := Try.checked) false ⟨#[], #[.slice none 0 0], []⟩ 8 (by kernel_rfl) (by kernel_rfl) (by kernel_rfl) (by kernel_rfl)) ?_
  intro W bs args ds gs before hval0 hW _ _
  have hval : ∀ (j : Nat) t v, Try.f5.params[j]? = some t → args[j]? = some v → Value.okWide Try.prog W .any bs t v := hval0
  have hW' : DataW.Whole enc Try.prog Try.f5.params.toList Rows.chestRestoresSpec.vars false W args.toList ds gs before := hW
  obtain ⟨p, q, hA0, hV, rfl, _, _⟩ := hW
  have hA : DataW.TrodAll enc Try.prog W 0 (fun _ => true) true Try.f5.params.toList args.toList ds p := hA0
  rw [Try.params5] at hA hval
  obtain ⟨v0, vs0, d0, ds0, p0, q0, hargs, rfl, rfl, h0, r0⟩ := trodAll_cons hA
  obtain ⟨rfl, rfl, rfl⟩ := trodAll_nil r0
  obtain rfl : args = #[v0] := by cases args; simp_all
  obtain ⟨rfl, rfl⟩ := trodVars_none hV
  obtain ⟨A0, c0, D0, rfl, b0, m0, n0⟩ := ch.open_needrows (hval 0 42 v0 rfl rfl) h0
  clear hA0 hval0
  refine (walk W A0 c0 D0 n0 b0 m0).mono fun e W' ⟨he, hb⟩ => ?_
  subst he
  exact ⟨_, rfl, base.law_post base.laid (by kernel_rfl) rfl rfl Try.underlying4 hW' rfl rfl rfl hb⟩

theorem over : Rows.chestRestoresRow.holds Try.pinned (OpenSpec.ofChange Rows.chestRestoresSpec) :=
  OpenClaim.holds_of_wide 5 Try.f5 rfl rfl rfl rfl rfl rfl rfl ⟨rfl, rfl, rfl, rfl, rfl⟩ rfl rfl rfl rfl rfl (by kernel_rfl) Try.func5 (by kernel_rfl)
    (of_decide_eq_true (by kernel_rfl)) (by unfold Func.isWrapper; first | (rw [if_pos (by decide +kernel)]; kernel_rfl) | (rw [if_neg (by decide +kernel)]; exact ⟨rfl, rfl⟩))
    (fun os started H enc _ => lifted os started H enc)

theorem proved : Rows.ChestRestoresSaid := over
#print axioms proved
end Go.Proofs.Ytknkcdhdfojifaa.chestRestores
