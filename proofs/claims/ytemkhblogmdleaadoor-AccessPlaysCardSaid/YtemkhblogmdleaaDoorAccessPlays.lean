/-
  AccessPlays (P18.1, P18.2), for the tied reading: for every owner and every list of settings the law answers true, whatever the memory, if the table of needs stands as the program lays it.
  Conditions: none beyond the card's own.
-/
import Derived.Test.YtemkhblogmdleaaDoorAccU
import Derived.Test.YtemkhblogmdleaaDoorCards
import Derived.Test.YtemkhblogmdleaaDoorTie
import Derived.Deep.DeepHandedRow
import Derived.Lib.LaidTab
namespace Go.Proofs.YtemkhblogmdleaaDoor.accessPlays
open Go.ChangeShapes Go.WideShapes Go.ChangeAt Go.RowKit
open base (ret_bool ret_int made up Blk Only Nums)
open ac acw rk il acp
set_option linter.unusedVariables false
set_option linter.unusedSimpArgs false
theorem gTab : Tryd.prog.globalNamed "deedhold/access.needs" = some 0 := by kernel_rfl
theorem gTabType : (Tryd.prog.globals[0]?).map (·.type) = some 51 := by kernel_rfl
theorem cells11 : Tryd.prog.cellsOf 51 = 11 := by kernel_rfl
theorem cells1 : Tryd.prog.cellsOf 3 = 1 := by kernel_rfl
theorem table {W : World} (h : laidMetH Tryd.prog Rows.accessPlaysRow.laid W) : Lib.TabIs Tryd.prog W "deedhold/access.needs" .i64 [1, 2, 3, 3, 3, 4, 4, 4, 4, 4, 4] :=
  Lib.tabIs_of_head (rest := []) gTab gTabType Tryd.underlying51 Tryd.underlying3 cells1 cells11 h
theorem tableOf {W : World} (h : laidMetH Tryd.prog Rows.accessPlaysRow.laid W) : Tab W := by
  have c : ∀ k, k < 11 → W.cell? ⟨0, k, none⟩ = some (.int .i64 (nt.getD k 0)) := by
    intro k hk
    have := (table h).cell gTab k (by simpa using hk)
    rw [this]
    rfl
  exact ⟨World.block_lt_of_cell? W _ (c 0 (by omega)), c⟩


set_option maxHeartbeats 1000000 in
theorem walk_lo (w : World) (hT : Tab w) (o : Int) (K : Option Addr) (c : Nat) (D : List OpR) (hl : D.length ≤ 9223372036854775807) (h1 : o < 1) :
    Calls Tryd.prog 6 #[.int .i64 o, .slice K D.length c] w (SmP true w) := by
  have AW := Lib.hid (awake_any w hT)
  have k1 : decide (o < 1) = true := decide_eq_true h1
  clear hT
  go_enter Tryd.func6, Tryd.ntmps6
  go_wp2_with fail
  refine AW.out.mono ?_
  rintro e w3 ⟨rfl, hb3⟩
  have B3 := Lib.hid hb3
  clear hb3
  go_wp2_with fail
  go_ret
  exact ⟨rfl, B3.out⟩
set_option maxHeartbeats 1000000 in
theorem walk_hi (w : World) (hT : Tab w) (o : Int) (K : Option Addr) (c : Nat) (D : List OpR) (hl : D.length ≤ 9223372036854775807) (h1 : 256 < o) :
    Calls Tryd.prog 6 #[.int .i64 o, .slice K D.length c] w (SmP true w) := by
  have AW := Lib.hid (awake_any w hT)
  have k1 : decide (o < 1) = false := decide_eq_false (by omega)
  have k2 : decide (o > 256) = true := decide_eq_true h1
  clear hT
  go_enter Tryd.func6, Tryd.ntmps6
  go_wp2_with fail
  refine AW.out.mono ?_
  rintro e w3 ⟨rfl, hb3⟩
  have B3 := Lib.hid hb3
  clear hb3
  go_wp2_with fail
  go_ret
  exact ⟨rfl, B3.out⟩
set_option maxHeartbeats 1000000 in
theorem walk_long (w : World) (hT : Tab w) (o : Int) (K : Option Addr) (c : Nat) (D : List OpR) (hl : D.length ≤ 9223372036854775807) (h1 : 1 ≤ o) (h2 : o ≤ 256) (h3 : 80 < D.length) :
    Calls Tryd.prog 6 #[.int .i64 o, .slice K D.length c] w (SmP true w) := by
  have AW := Lib.hid (awake_any w hT)
  have k1 : decide (o < 1) = false := decide_eq_false (by omega)
  have k2 : decide (o > 256) = false := decide_eq_false (by omega)
  have k3 : decide ((D.length : Int) > 80) = true := decide_eq_true (by omega)
  clear hT
  go_enter Tryd.func6, Tryd.ntmps6
  go_wp2_with fail
  refine AW.out.mono ?_
  rintro e w3 ⟨rfl, hb3⟩
  have B3 := Lib.hid hb3
  clear hb3
  go_wp2_with fail
  go_ret
  exact ⟨rfl, B3.out⟩
set_option maxRecDepth 100000 in
set_option maxHeartbeats 8000000 in
theorem walk_main (w : World) (hT : Tab w) (o : Int) (K : Option Addr) (c : Nat) (D : List OpR) (hD : Lay EO w K D) (h1 : 1 ≤ o) (h2 : o ≤ 256) (h3 : D.length ≤ 80) :
    Calls Tryd.prog 6 #[.int .i64 o, .slice K D.length c] w (SmP true w) := by
  have k1 : decide (o < 1) = false := decide_eq_false (by omega)
  have k2 : decide (o > 256) = false := decide_eq_false (by omega)
  have k3 : decide ((D.length : Int) > 80) = false := decide_eq_false (by omega)
  have NW := Lib.hid (new_any o w)
  have RZ := Lib.hid (right_nil h1 h2)
  have TB := Lib.hid hT
  have HD := Lib.hid hD
  have H12 := Lib.hid (And.intro h1 h2)
  have H3 := Lib.hid h3
  clear hT hD h1 h2
  go_enter Tryd.func6, Tryd.ntmps6
  go_wp2_with fail
  refine NW.out.mono ?_
  rintro e w1 ⟨rfl, hb1⟩
  have ba : Blk (w1.alloc (.cells #[.int .i64 o, .slice none 0 0, .slice none 0 0, .slice none 0 0] 24)) w1.heap.size 24 #[.int .i64 o, .slice none 0 0, .slice none 0 0, .slice none 0 0] := Blk.new _ _ _
  have hm2 := made w1 (.cells #[.int .i64 o, .slice none 0 0, .slice none 0 0, .slice none 0 0] 24)
  have hb2 := up hb1 hm2 hb1.size
  have BA := Lib.hid ba
  have HB2 := Lib.hid hb2
  have LB5 := Lib.hid hb1.size
  obtain ⟨b5, hb5⟩ : ∃ b, b = w1.heap.size := ⟨_, rfl⟩
  rw [← hb5] at BA LB5
  clear NW ba hm2 hb2 hb1 k1 k2
  go_upto_region 4 with fail
  rw [← hb5]
  generalize w1.alloc (.cells #[.int .i64 o, .slice none 0 0, .slice none 0 0, .slice none 0 0] 24) = w2 at *
  clear hb5
  have bb : Blk (w2.alloc (.cells #[.slice none 0 0, .slice none 0 0, .slice none 0 0, .slice none 0 0] 46)) w2.heap.size 46 #[.slice none 0 0, .slice none 0 0, .slice none 0 0, .slice none 0 0] := Blk.new _ _ _
  have hm3 := made w2 (.cells #[.slice none 0 0, .slice none 0 0, .slice none 0 0, .slice none 0 0] 46)
  have PL3 := Lib.hid (show Pl _ b5 w2.heap.size o none none none 0 0 0 [] [] [] none none none 0 0 0 [] [] [] from ⟨BA.out.lt, BA.out.below hm3 BA.out.lt, bb, ⟨rk.Own.nil _ _ _, rk.Own.nil _ _ _, rk.Own.nil _ _ _⟩, ⟨rk.Own.nil _ _ _, rk.Own.nil _ _ _, rk.Own.nil _ _ _⟩⟩)
  have HB3 := Lib.hid (up HB2.out hm3 HB2.out.size)
  have LB6 := Lib.hid HB2.out.size
  obtain ⟨b6, hb6⟩ : ∃ b, b = w2.heap.size := ⟨_, rfl⟩
  rw [← hb6] at PL3 LB6
  clear bb hm3 BA HB2
  go_wp2_with fail
  rw [← hb6]
  generalize w2.alloc (.cells #[.slice none 0 0, .slice none 0 0, .slice none 0 0, .slice none 0 0] 46) = w3 at *
  clear hb6
  go_loopw [28] (fun j wr => ∃ (k : Nat) (W : World) (la lb lc : List Int) (A : Option Addr) (ca : Nat) (B : Option Addr) (cb : Nat) (C : Option Addr) (cc : Nat) (X : Option Addr) (cx : Nat) (Y : Option Addr) (cy : Nat) (Z : Option Addr) (cz : Nat), W = wr ∧ j = .int .i64 k ∧ k ≤ D.length ∧ Below w.heap.size w wr ∧ RightH o la lb lc ∧ Pl wr b5 b6 o A B C ca cb cc la lb lc X Y Z cx cy cz la lb lc) (fun j _ => D.length - (intOf j).toNat)
  case atStart => exact ⟨0, _, [], [], [], none, 0, none, 0, none, 0, none, 0, none, 0, none, 0, rfl, rfl, by omega, HB3.out, RZ.out, PL3.out⟩
  case round =>
  clear PL3 HB3 RZ
  obtain ⟨k, wr, la, lb, lc, A, ca, B, cb, C, cc, X, cx, Y, cy, Z, cz, rfl, rfl, hk, hbr, hrh, hpl⟩ := hrel
  have RH := Lib.hid hrh
  have PLr := Lib.hid hpl
  have HBr := Lib.hid hbr
  have LE := Lib.hid (Pl.lens hrh)
  have p0 := hpl.box.cell 0
  have p1 := hpl.box.cell 1
  have p2 := hpl.box.cell 2
  have p3 := hpl.box.cell 3
  by_cases hkl : k < D.length
  · obtain ⟨b, off, rfl, e0, e1, e2⟩ := lay3 (HD.out.below hbr) hkl
    generalize D[k] = d at *
    obtain ⟨z, p, on⟩ := d
    dsimp only at e0 e1 e2
    have hm6 := made wr (.cells #[.int .i64 z, .int .i64 p, .bool on] 48)
    have bo6 : Blk (wr.alloc (.cells #[.int .i64 z, .int .i64 p, .bool on] 48)) wr.heap.size 48 #[.int .i64 z, .int .i64 p, .bool on] := Blk.new _ _ _
    have BO6 := Lib.hid bo6
    have PL6 := Lib.hid (hpl.keep hm6)
    have HB6 := Lib.hid (up hbr hm6 hbr.size)
    have NB5 := Lib.hid (show b5 < wr.heap.size ∧ b6 < wr.heap.size from ⟨hpl.box.lt, hpl.arr.lt⟩)
    have LS6 := PL6.out.h.ls LE.out
    have SE := Lib.hid (set_any o A ca la B cb lb C cc lc z p on (wr.alloc (.cells #[.int .i64 z, .int .i64 p, .bool on] 48)) hrh LS6)
    have WR := Lib.hid (fun ws (h : Below (wr.alloc (.cells #[.int .i64 z, .int .i64 p, .bool on] 48)).heap.size (wr.alloc (.cells #[.int .i64 z, .int .i64 p, .bool on] 48)) ws) => wrong_any o A ca la B cb lb C cc lc z p on ws (LS6.keep h) (by have := LE.out; omega))
    have o0 := bo6.cell 0
    have o1 := bo6.cell 1
    have o2 := bo6.cell 2
    have p0 := PL6.out.box.cell 0
    have p1 := PL6.out.box.cell 1
    have p2 := PL6.out.box.cell 2
    have p3 := PL6.out.box.cell 3
    clear hm6 bo6 hbr hrh hpl LS6
    go_upto_region 8 with fail
    generalize wr.alloc (.cells #[.int .i64 z, .int .i64 p, .bool on] 48) = w6 at *
    clear e0 e1 e2
    go_wp2_with fail
    refine SE.out.mono ?_
    rintro e w7 (⟨hne, rfl, hb7⟩ | ⟨he0, t0, t1, t2, rfl, ot⟩)
    · have hm8 := made w7 (.cells #[.int .i64 0, .slice none 0 0, .slice none 0 0, .slice none 0 0] 24)
      have hb8 := up hb7 hm8 hb7.size
      have WR8 := Lib.hid (WR.out _ hb8)
      have P8 := Lib.hid (PL6.out.keep hb8)
      have BO8 := BO6.out.below hb8 BO6.out.lt
      have HB8 := Lib.hid (up HB6.out hb8 HB6.out.size)
      have q0 := BO8.cell 0
      have q1 := BO8.cell 1
      have q2 := BO8.cell 2
      have h0 := P8.out.box.cell 0
      have h1 := P8.out.box.cell 1
      have h2 := P8.out.box.cell 2
      have h3 := P8.out.box.cell 3
      have kne : (wrongAny o la lb lc z p on != 0) = true := by simpa using hne
      clear SE WR hm8 hb8 hb7 BO8 o0 o1 o2 p0 p1 p2 p3 hne
      generalize wrongAny o la lb lc z p on = er at *
      go_wp2_with fail
      generalize w7.alloc (.cells #[.int .i64 0, .slice none 0 0, .slice none 0 0, .slice none 0 0] 24) = w8 at *
      refine WR8.out.mono ?_
      rintro e w9 ⟨rfl, hb9⟩
      have P9 := Lib.hid (P8.out.keep hb9)
      have HB9 := Lib.hid (up HB8.out hb9 HB8.out.size)
      clear hb9 q0 q1 q2 h0 h1 h2 h3
      go_wp2_with fail
      refine ⟨⟨k + 1, _, la, lb, lc, A, ca, B, cb, C, cc, X, cx, Y, cy, Z, cz, rfl, by go_num, by omega, HB9.out, RH.out, P9.out⟩, by simp [intOf]; omega⟩
    · cases on with
      | true =>
        obtain ⟨G1, d1, G2, d2, G3, d3, rfl, rfl, rfl⟩ := ot.tri.open3
        have zz := wrongAny_z he0
        obtain ⟨zn, rfl⟩ : ∃ zn : Nat, z = (zn : Int) := ⟨z.toNat, by omega⟩
        have ZZ := Lib.hid (show zn = 1 ∨ zn = 2 ∨ zn = 3 by omega)
        have hz1 : 1 ≤ zn := by omega
        have hz3 : zn < 4 := by omega
        have hz4 : ((zn : Int) < 4) = True := by simp; omega
        have RN := Lib.hid (rightH_new RH.out he0)
        have g5 : Blk (w7.alloc (.cells #[.int .i64 o, .slice G1 (na 1 (zn : Int) true p la).length d1, .slice G2 (na 2 (zn : Int) true p lb).length d2, .slice G3 (na 3 (zn : Int) true p lc).length d3] 24)) w7.heap.size 24 #[.int .i64 o, .slice G1 (na 1 (zn : Int) true p la).length d1, .slice G2 (na 2 (zn : Int) true p lb).length d2, .slice G3 (na 3 (zn : Int) true p lc).length d3] := Blk.new _ _ _
        have hm8 := made w7 (.cells #[.int .i64 o, .slice G1 (na 1 (zn : Int) true p la).length d1, .slice G2 (na 2 (zn : Int) true p lb).length d2, .slice G3 (na 3 (zn : Int) true p lc).length d3] 24)
        have hb8 := up ot.below hm8 ot.below.size
        have T8 := Lib.hid (ot.tri.below hm8)
        have WR8 := Lib.hid (WR.out _ hb8)
        rw [he0] at WR8
        have P8 := Lib.hid (PL6.out.keep hb8)
        have BO8 := Lib.hid (BO6.out.below hb8 BO6.out.lt)
        have G8 := Lib.hid g5
        have HB8 := Lib.hid (up HB6.out hb8 HB6.out.size)
        have q0 := BO8.out.cell 0
        have q1 := BO8.out.cell 1
        have q2 := BO8.out.cell 2
        have h0 := P8.out.box.cell 0
        have h1 := P8.out.box.cell 1
        have h2 := P8.out.box.cell 2
        have h3 := P8.out.box.cell 3
        clear g5 hm8 hb8 ot WR SE he0 zz p0 p1 p2 p3 o0 o1 o2
        go_wp2_with fail
        generalize w7.alloc (.cells #[.int .i64 o, .slice G1 (na 1 (zn : Int) true p la).length d1, .slice G2 (na 2 (zn : Int) true p lb).length d2, .slice G3 (na 3 (zn : Int) true p lc).length d3] 24) = w8 at *
        clear q0 q1 q2 h0 h1 h2 h3
        refine WR8.out.mono ?_
        rintro e w9 ⟨rfl, hb9⟩
        have P9 := Lib.hid (P8.out.keep hb9)
        have T9 := Lib.hid (Th3.of (T8.out.below hb9) (show b6 + 1 ≤ w6.heap.size from PL6.out.arr.lt))
        have G9 := G8.out.below hb9 G8.out.lt
        have BO9 := Lib.hid (BO8.out.below hb9 BO8.out.lt)
        have PH := Lib.hid (P9.out.house T9.out)
        have HB9 := Lib.hid (up HB8.out hb9 HB8.out.size)
        have g0 := G9.cell 0
        have g1 := G9.cell 1
        have g2 := G9.cell 2
        have g3 := G9.cell 3
        have f0 := P9.out.box.free 0
        have f1 := P9.out.box.free 1
        have f2 := P9.out.box.free 2
        have f3 := P9.out.box.free 3
        have h0 := P9.out.box.cell 0
        have h1 := P9.out.box.cell 1
        have h2 := P9.out.box.cell 2
        have h3 := P9.out.box.cell 3
        have q2 := BO9.out.cell 2
        have hne : wr.heap.size ≠ b5 := by have := NB5.out; omega
        have BOH := Lib.hid ((((BO9.out.far (p := ⟨b5, 0, none⟩) hne (.int .i64 o)).far (p := ⟨b5, 1, none⟩) hne (.slice G1 (na 1 (zn : Int) true p la).length d1)).far (p := ⟨b5, 2, none⟩) hne (.slice G2 (na 2 (zn : Int) true p lb).length d2)).far (p := ⟨b5, 3, none⟩) hne (.slice G3 (na 3 (zn : Int) true p lc).length d3))
        have HBH := Lib.hid ((((HB9.out.setCell (p := ⟨b5, 0, none⟩) LB5.out (.int .i64 o)).setCell (p := ⟨b5, 1, none⟩) LB5.out (.slice G1 (na 1 (zn : Int) true p la).length d1)).setCell (p := ⟨b5, 2, none⟩) LB5.out (.slice G2 (na 2 (zn : Int) true p lb).length d2)).setCell (p := ⟨b5, 3, none⟩) LB5.out (.slice G3 (na 3 (zn : Int) true p lc).length d3))
        clear hb9 G9 P8 T8 G8 BO8 HB8 WR8 PL6
        go_upto_region 14 with fail
        generalize (((w9.setCell ⟨b5, 0, none⟩ (.int .i64 o)).setCell ⟨b5, 1, none⟩ (.slice G1 (na 1 (zn : Int) true p la).length d1)).setCell ⟨b5, 2, none⟩ (.slice G2 (na 2 (zn : Int) true p lb).length d2)).setCell ⟨b5, 3, none⟩ (.slice G3 (na 3 (zn : Int) true p lc).length d3) = w10 at *
        clear g0 g1 g2 g3 f0 f1 f2 f3 h0 h1 h2 h3 q2 hne P9 T9 BO9 HB9
        obtain ⟨V, cv, hV, hVn⟩ := PH.out.cell ZZ.out
        have q2 := BOH.out.cell 2
        have RW := Lib.hid (fun ws (h : Below w10.heap.size w10 ws) => rwith_any V cv (sel (zn : Int) la lb lc) p ws (nums_lay (hVn.keep h)) (by have := sel_len (z := (zn : Int)) RH.out; omega))
        have KS := Lib.hid (fun ws (h : Below w10.heap.size w10 ws) => (show ws.cell? ⟨wr.heap.size, 0, none⟩ = some (.int .i64 (zn : Int)) ∧ ws.cell? ⟨wr.heap.size, 1, none⟩ = some (.int .i64 p) from ⟨(BOH.out.below h BOH.out.lt).cell 0, (BOH.out.below h BOH.out.lt).cell 1⟩))
        have BV := Lib.hid (Below.refl w10.heap.size w10).drew
        clear hVn
        go_upto_region 15 with fail
        refine wp_region_held_drew (S := (fun ws => ws.cell? ⟨wr.heap.size, 0, none⟩ = some (.int .i64 (zn : Int)) ∧ ws.cell? ⟨wr.heap.size, 1, none⟩ = some (.int .i64 p))) (by kernel_rfl) (KS.out _ BV.out) (fun hHeld => ?_)
        have hV2 : w10.drew.cell? ⟨b6, zn, none⟩ = some (.slice V (sel (zn : Int) la lb lc).length cv) := hV
        generalize w10.drew = w11 at *
        clear hV q2
        refine wpAnyH_take (i := 0) (v := ?_) rfl (by kernel_rfl) (by kernel_rfl) (by kernel_rfl) (fun _ _ _ h => h) (Or.inl ⟨by rfl, ?_⟩) (by assumption) ?_
        rotate_left
        · (intro w hSw; (try dsimp only at hSw); first | (go_simp; done) | (go_simp; with_reducible rfl))
        simp only [Act.put, List.getElem_toArray, List.getElem_cons_zero, List.getElem_cons_succ, List.setIfInBounds_toArray, List.set_cons_zero, List.set_cons_succ]
        refine wpAnyH_take (i := 1) (v := ?_) rfl (by kernel_rfl) (by kernel_rfl) (by kernel_rfl) (fun _ _ _ h => h) (Or.inl ⟨by rfl, ?_⟩) (by assumption) ?_
        rotate_left
        · (intro w hSw; (try dsimp only at hSw); first | (go_simp; done) | (go_simp; with_reducible rfl))
        simp only [Act.put, List.getElem_toArray, List.getElem_cons_zero, List.getElem_cons_succ, List.setIfInBounds_toArray, List.set_cons_zero, List.set_cons_succ]
        refine wpAnyH_take (i := 2) (v := ?_) rfl (by kernel_rfl) (by kernel_rfl) (by kernel_rfl) (fun _ _ _ h => h) (Or.inl ⟨by rfl, ?_⟩) (by assumption) ?_
        rotate_left
        · (intro w hSw; (try dsimp only at hSw); first | (go_simp; done) | (go_simp; with_reducible rfl))
        simp only [Act.put, List.getElem_toArray, List.getElem_cons_zero, List.getElem_cons_succ, List.setIfInBounds_toArray, List.set_cons_zero, List.set_cons_succ]
        refine wpAnyH_take (i := 3) (v := ?_) rfl (by kernel_rfl) (by kernel_rfl) (by kernel_rfl) (fun _ _ _ h => h) (Or.inl ⟨by rfl, ?_⟩) (by assumption) ?_
        rotate_left
        · (intro w hSw; (try dsimp only at hSw); first | (go_simp; done) | (go_simp; with_reducible rfl))
        simp only [Act.put, List.getElem_toArray, List.getElem_cons_zero, List.getElem_cons_succ, List.setIfInBounds_toArray, List.set_cons_zero, List.set_cons_succ]
        refine wpAnyH_take (i := 4) (v := ?_) rfl (by kernel_rfl) (by kernel_rfl) (by kernel_rfl) (fun _ _ _ h => h) (Or.inl ⟨by rfl, ?_⟩) (by assumption) ?_
        rotate_left
        · (intro w hSw; (try dsimp only at hSw); first | (go_simp; done) | (go_simp; with_reducible rfl))
        simp only [Act.put, List.getElem_toArray, List.getElem_cons_zero, List.getElem_cons_succ, List.setIfInBounds_toArray, List.set_cons_zero, List.set_cons_succ]
        refine wpAnyH_take (i := 6) (v := ?_) rfl (by kernel_rfl) (by kernel_rfl) (by kernel_rfl) (fun _ _ _ h => h) (Or.inl ⟨by rfl, ?_⟩) (by assumption) ?_
        rotate_left
        · (intro w hSw; (try dsimp only at hSw); first | (go_simp; done) | (go_simp; with_reducible rfl))
        simp only [Act.put, List.getElem_toArray, List.getElem_cons_zero, List.getElem_cons_succ, List.setIfInBounds_toArray, List.set_cons_zero, List.set_cons_succ]
        refine wpAnyH_take (i := 7) (v := ?_) rfl (by kernel_rfl) (by kernel_rfl) (by kernel_rfl) (fun _ _ _ h => h) (Or.inl ⟨by rfl, ?_⟩) (by assumption) ?_
        rotate_left
        · (intro w hSw; (try dsimp only at hSw); first | (go_simp; done) | (go_simp; with_reducible rfl))
        simp only [Act.put, List.getElem_toArray, List.getElem_cons_zero, List.getElem_cons_succ, List.setIfInBounds_toArray, List.set_cons_zero, List.set_cons_succ]
        refine wpAnyH_ready (rs := [5]) (by kernel_rfl) (by simp) ?_
        refine AllReadyH.cons rfl (fun K hK => ?_) AllReadyH.nil
        go_simp
        refine hK.out _ _ (KS.out _ BV.out) (fun hH1 => ?_)
        clear hK K hHeld
        refine wpAnyH_ready (rs := [8]) (by kernel_rfl) (by simp) ?_
        refine AllReadyH.cons rfl (fun K hK => ?_) AllReadyH.nil
        go_simp
        go_wp2_with (go_at_call 21; refine (RW.out _ BV.out).mono ?_; rintro e w12 ⟨v9, rfl, own9a, hb12⟩)
        have own9b : il.OwnI w12 w11.heap.size v9 (nw true p (sel (zn : Int) la lb lc)) := own9a
        obtain ⟨V9, c9, rfl, -⟩ := own9b.open_
        have BV12 := Lib.hid (BV.out.trans (hb12.mono BV.out.size))
        have P12 := Lib.hid (PH.out.keep BV12.out)
        have own9 := own9b.mono (show b6 + 1 ≤ w11.heap.size from by have := PH.out.arr.lt; have := BV.out.size; omega)
        obtain ⟨X', cx', Y', cy', Z', cz', pl⟩ := P12.out.list ZZ.out own9
        have PF := Lib.hid pl
        have BO12 := BOH.out.below BV12.out BOH.out.lt
        have hne2 : wr.heap.size ≠ b6 := by have := NB5.out; omega
        have BOF := Lib.hid (BO12.far (p := ⟨b6, zn, none⟩) hne2 (.slice V9 (nw true p (sel (zn : Int) la lb lc)).length c9))
        have HBF := Lib.hid ((HBH.out.trans (BV12.out.mono HBH.out.size)).setCell (p := ⟨b6, zn, none⟩) LB6.out (.slice V9 (nw true p (sel (zn : Int) la lb lc)).length c9))
        have cz := (hb12.cell (p := ⟨b6, zn, none⟩) (by have := PH.out.arr.lt; have := BV.out.size; show b6 < _; omega)).trans hV2
        have fz := P12.out.arr.free zn
        refine hK.out _ _ (KS.out _ BV12.out) (fun hH2 => ?_)
        clear hK K hH1 own9 own9a own9b hb12 pl BO12
        refine wpAnyH_take (i := 9) (v := ?_) rfl (by kernel_rfl) (by kernel_rfl) (by kernel_rfl) (fun _ _ _ h => h) (Or.inl ⟨by rfl, ?_⟩) (by assumption) ?_
        rotate_left
        · (intro w hSw; (try dsimp only at hSw); first | (go_simp; done) | (go_simp; with_reducible rfl))
        simp only [Act.put, List.getElem_toArray, List.getElem_cons_zero, List.getElem_cons_succ, List.setIfInBounds_toArray, List.set_cons_zero, List.set_cons_succ]
        refine wpAnyH_ready (rs := [10]) (by kernel_rfl) (by simp) ?_
        refine AllReadyH.cons rfl (fun K hK => ?_) AllReadyH.nil
        go_simp
        refine hK.out _ _ ⟨BOF.out.cell 0, BOF.out.cell 1⟩ (fun hH3 => ?_)
        clear hK K hH2
        refine wpAnyH_done (by kernel_rfl) ?_ _
        clear hH3 hV2 cz fz hne2 KS RW
        generalize w12.setCell ⟨b6, zn, none⟩ (.slice V9 (nw true p (sel (zn : Int) la lb lc)).length c9) = w13 at *
        have LE := Lib.hid (Pl.lens RN.out)
        clear P12 PH BOH HBH BV12 BV
        obtain ⟨ia, hia⟩ : ∃ x, x = (na 1 (zn : Int) true p la) := ⟨_, rfl⟩
        obtain ⟨ib, hib⟩ : ∃ x, x = (na 2 (zn : Int) true p lb) := ⟨_, rfl⟩
        obtain ⟨ic, hic⟩ : ∃ x, x = (na 3 (zn : Int) true p lc) := ⟨_, rfl⟩
        rw [← hia, ← hib, ← hic] at PF RN LE
        rw [← hia, ← hib, ← hic]
        clear hia hib hic
        have LS := Lib.hid (PF.out.h.ls LE.out)
        have LM := Lib.hid (PF.out.m.ls LE.out)
        have KS := Lib.hid (fun ws (h : Below w13.heap.size w13 ws) => (show ws.cell? ⟨b5, 0, none⟩ = some (.int .i64 o) ∧ ws.cell? ⟨b5, 1, none⟩ = some (.slice G1 ia.length d1) ∧ ws.cell? ⟨b5, 2, none⟩ = some (.slice G2 ib.length d2) ∧ ws.cell? ⟨b5, 3, none⟩ = some (.slice G3 ic.length d3) ∧ ws.cell? ⟨b6, 1, none⟩ = some (.slice X' ia.length cx') ∧ ws.cell? ⟨b6, 2, none⟩ = some (.slice Y' ib.length cy') ∧ ws.cell? ⟨b6, 3, none⟩ = some (.slice Z' ic.length cz') ∧ ws.cell? ⟨wr.heap.size, 1, none⟩ = some (.int .i64 p) from ⟨(PF.out.keep h).box.cell 0, (PF.out.keep h).box.cell 1, (PF.out.keep h).box.cell 2, (PF.out.keep h).box.cell 3, (PF.out.keep h).arr.cell 1, (PF.out.keep h).arr.cell 2, (PF.out.keep h).arr.cell 3, (BOF.out.below h BOF.out.lt).cell 1⟩))
        have RI := Lib.hid (fun ws (h : Below w13.heap.size w13 ws) => hright_any o G1 d1 ia G2 d2 ib G3 d3 ic true (by simp; exact RN.out) ws (LS.out.keep h))
        have LV := Lib.hid (fun ws (h : Below w13.heap.size w13 ws) => level_any o G1 d1 ia G2 d2 ib G3 d3 ic p ws (LS.out.keep h))
        have RL := Lib.hid (fun ws (h : Below w13.heap.size w13 ws) => rlevel_any o X' cx' ia Y' cy' ib Z' cz' ic p ws (LM.out.keep h))
        have BV := Lib.hid (Below.refl w13.heap.size w13).drew
        generalize levelOf o ia ib ic p = lv at *
        go_upto_region 17 with fail
        refine wp_region_held_drew (S := (fun ws => ws.cell? ⟨b5, 0, none⟩ = some (.int .i64 o) ∧ ws.cell? ⟨b5, 1, none⟩ = some (.slice G1 ia.length d1) ∧ ws.cell? ⟨b5, 2, none⟩ = some (.slice G2 ib.length d2) ∧ ws.cell? ⟨b5, 3, none⟩ = some (.slice G3 ic.length d3) ∧ ws.cell? ⟨b6, 1, none⟩ = some (.slice X' ia.length cx') ∧ ws.cell? ⟨b6, 2, none⟩ = some (.slice Y' ib.length cy') ∧ ws.cell? ⟨b6, 3, none⟩ = some (.slice Z' ic.length cz') ∧ ws.cell? ⟨wr.heap.size, 1, none⟩ = some (.int .i64 p))) (by kernel_rfl) (KS.out _ BV.out) (fun hHeld => ?_)
        generalize w13.drew = w14 at *
        refine wpAnyH_take (i := 0) (v := ?_) rfl (by kernel_rfl) (by kernel_rfl) (by kernel_rfl) (fun _ _ _ h => h) (Or.inl ⟨by rfl, ?_⟩) (by assumption) ?_
        rotate_left
        · (intro w hSw; (try dsimp only at hSw); first | (go_simp; done) | (go_simp; with_reducible rfl))
        simp only [Act.put, List.getElem_toArray, List.getElem_cons_zero, List.getElem_cons_succ, List.setIfInBounds_toArray, List.set_cons_zero, List.set_cons_succ]
        refine wpAnyH_ready (rs := [1]) (by kernel_rfl) (by simp) ?_
        refine AllReadyH.cons rfl (fun K hK => ?_) AllReadyH.nil
        go_simp
        go_wp2_with (go_at_call 15; refine (RI.out _ BV.out).mono ?_; rintro e w15 ⟨rfl, hb15⟩)
        have B15 := Lib.hid (BV.out.trans (hb15.mono BV.out.size))
        refine hK.out _ _ (KS.out _ B15.out) (fun hH1 => ?_)
        clear hK K hHeld hb15
        refine wpAnyH_take (i := 2) (v := ?_) rfl (by kernel_rfl) (by kernel_rfl) (by kernel_rfl) (fun _ _ _ h => h) (Or.inl ⟨by rfl, ?_⟩) (by assumption) ?_
        rotate_left
        · (intro w hSw; (try dsimp only at hSw); first | (go_simp; done) | (go_simp; with_reducible rfl))
        simp only [Act.put, List.getElem_toArray, List.getElem_cons_zero, List.getElem_cons_succ, List.setIfInBounds_toArray, List.set_cons_zero, List.set_cons_succ]
        refine wpAnyH_take (i := 3) (v := ?_) rfl (by kernel_rfl) (by kernel_rfl) (by kernel_rfl) (fun _ _ _ h => h) (Or.inl ⟨by rfl, ?_⟩) (by assumption) ?_
        rotate_left
        · (intro w hSw; (try dsimp only at hSw); first | (go_simp; done) | (go_simp; with_reducible rfl))
        simp only [Act.put, List.getElem_toArray, List.getElem_cons_zero, List.getElem_cons_succ, List.setIfInBounds_toArray, List.set_cons_zero, List.set_cons_succ]
        refine wpAnyH_take (i := 4) (v := ?_) rfl (by kernel_rfl) (by kernel_rfl) (by kernel_rfl) (fun _ _ _ h => h) (Or.inl ⟨by rfl, ?_⟩) (by assumption) ?_
        rotate_left
        · (intro w hSw; (try dsimp only at hSw); first | (go_simp; done) | (go_simp; with_reducible rfl))
        simp only [Act.put, List.getElem_toArray, List.getElem_cons_zero, List.getElem_cons_succ, List.setIfInBounds_toArray, List.set_cons_zero, List.set_cons_succ]
        refine wpAnyH_take (i := 5) (v := ?_) rfl (by kernel_rfl) (by kernel_rfl) (by kernel_rfl) (fun _ _ _ h => h) (Or.inl ⟨by rfl, ?_⟩) (by assumption) ?_
        rotate_left
        · (intro w hSw; (try dsimp only at hSw); first | (go_simp; done) | (go_simp; with_reducible rfl))
        simp only [Act.put, List.getElem_toArray, List.getElem_cons_zero, List.getElem_cons_succ, List.setIfInBounds_toArray, List.set_cons_zero, List.set_cons_succ]
        refine wpAnyH_take (i := 6) (v := ?_) rfl (by kernel_rfl) (by kernel_rfl) (by kernel_rfl) (fun _ _ _ h => h) (Or.inl ⟨by rfl, ?_⟩) (by assumption) ?_
        rotate_left
        · (intro w hSw; (try dsimp only at hSw); first | (go_simp; done) | (go_simp; with_reducible rfl))
        simp only [Act.put, List.getElem_toArray, List.getElem_cons_zero, List.getElem_cons_succ, List.setIfInBounds_toArray, List.set_cons_zero, List.set_cons_succ]
        refine wpAnyH_take (i := 8) (v := ?_) rfl (by kernel_rfl) (by kernel_rfl) (by kernel_rfl) (fun _ _ _ h => h) (Or.inl ⟨by rfl, ?_⟩) (by assumption) ?_
        rotate_left
        · (intro w hSw; (try dsimp only at hSw); first | (go_simp; done) | (go_simp; with_reducible rfl))
        simp only [Act.put, List.getElem_toArray, List.getElem_cons_zero, List.getElem_cons_succ, List.setIfInBounds_toArray, List.set_cons_zero, List.set_cons_succ]
        refine wpAnyH_take (i := 9) (v := ?_) rfl (by kernel_rfl) (by kernel_rfl) (by kernel_rfl) (fun _ _ _ h => h) (Or.inl ⟨by rfl, ?_⟩) (by assumption) ?_
        rotate_left
        · (intro w hSw; (try dsimp only at hSw); first | (go_simp; done) | (go_simp; with_reducible rfl))
        simp only [Act.put, List.getElem_toArray, List.getElem_cons_zero, List.getElem_cons_succ, List.setIfInBounds_toArray, List.set_cons_zero, List.set_cons_succ]
        refine wpAnyH_take (i := 10) (v := ?_) rfl (by kernel_rfl) (by kernel_rfl) (by kernel_rfl) (fun _ _ _ h => h) (Or.inl ⟨by rfl, ?_⟩) (by assumption) ?_
        rotate_left
        · (intro w hSw; (try dsimp only at hSw); first | (go_simp; done) | (go_simp; with_reducible rfl))
        simp only [Act.put, List.getElem_toArray, List.getElem_cons_zero, List.getElem_cons_succ, List.setIfInBounds_toArray, List.set_cons_zero, List.set_cons_succ]
        refine wpAnyH_take (i := 11) (v := ?_) rfl (by kernel_rfl) (by kernel_rfl) (by kernel_rfl) (fun _ _ _ h => h) (Or.inl ⟨by rfl, ?_⟩) (by assumption) ?_
        rotate_left
        · (intro w hSw; (try dsimp only at hSw); first | (go_simp; done) | (go_simp; with_reducible rfl))
        simp only [Act.put, List.getElem_toArray, List.getElem_cons_zero, List.getElem_cons_succ, List.setIfInBounds_toArray, List.set_cons_zero, List.set_cons_succ]
        refine wpAnyH_take (i := 12) (v := ?_) rfl (by kernel_rfl) (by kernel_rfl) (by kernel_rfl) (fun _ _ _ h => h) (Or.inl ⟨by rfl, ?_⟩) (by assumption) ?_
        rotate_left
        · (intro w hSw; (try dsimp only at hSw); first | (go_simp; done) | (go_simp; with_reducible rfl))
        simp only [Act.put, List.getElem_toArray, List.getElem_cons_zero, List.getElem_cons_succ, List.setIfInBounds_toArray, List.set_cons_zero, List.set_cons_succ]
        refine wpAnyH_take (i := 13) (v := ?_) rfl (by kernel_rfl) (by kernel_rfl) (by kernel_rfl) (fun _ _ _ h => h) (Or.inl ⟨by rfl, ?_⟩) (by assumption) ?_
        rotate_left
        · (intro w hSw; (try dsimp only at hSw); first | (go_simp; done) | (go_simp; with_reducible rfl))
        simp only [Act.put, List.getElem_toArray, List.getElem_cons_zero, List.getElem_cons_succ, List.setIfInBounds_toArray, List.set_cons_zero, List.set_cons_succ]
        refine wpAnyH_take (i := 14) (v := ?_) rfl (by kernel_rfl) (by kernel_rfl) (by kernel_rfl) (fun _ _ _ h => h) (Or.inl ⟨by rfl, ?_⟩) (by assumption) ?_
        rotate_left
        · (intro w hSw; (try dsimp only at hSw); first | (go_simp; done) | (go_simp; with_reducible rfl))
        simp only [Act.put, List.getElem_toArray, List.getElem_cons_zero, List.getElem_cons_succ, List.setIfInBounds_toArray, List.set_cons_zero, List.set_cons_succ]
        refine wpAnyH_take (i := 15) (v := ?_) rfl (by kernel_rfl) (by kernel_rfl) (by kernel_rfl) (fun _ _ _ h => h) (Or.inl ⟨by rfl, ?_⟩) (by assumption) ?_
        rotate_left
        · (intro w hSw; (try dsimp only at hSw); first | (go_simp; done) | (go_simp; with_reducible rfl))
        simp only [Act.put, List.getElem_toArray, List.getElem_cons_zero, List.getElem_cons_succ, List.setIfInBounds_toArray, List.set_cons_zero, List.set_cons_succ]
        refine wpAnyH_take (i := 16) (v := ?_) rfl (by kernel_rfl) (by kernel_rfl) (by kernel_rfl) (fun _ _ _ h => h) (Or.inl ⟨by rfl, ?_⟩) (by assumption) ?_
        rotate_left
        · (intro w hSw; (try dsimp only at hSw); first | (go_simp; done) | (go_simp; with_reducible rfl))
        simp only [Act.put, List.getElem_toArray, List.getElem_cons_zero, List.getElem_cons_succ, List.setIfInBounds_toArray, List.set_cons_zero, List.set_cons_succ]
        refine wpAnyH_ready (rs := [7]) (by kernel_rfl) (by simp) ?_
        refine AllReadyH.cons rfl (fun K hK => ?_) AllReadyH.nil
        go_simp
        go_wp2_with (go_at_call 11; refine (LV.out _ B15.out).mono ?_; rintro e w16 ⟨rfl, hb16⟩)
        have B16 := Lib.hid (B15.out.trans (hb16.mono B15.out.size))
        refine hK.out _ _ (KS.out _ B16.out) (fun hH2 => ?_)
        clear hK K hH1 hb16
        refine wpAnyH_ready (rs := [17]) (by kernel_rfl) (by simp) ?_
        refine AllReadyH.cons rfl (fun K hK => ?_) AllReadyH.nil
        go_simp
        go_wp2_with (go_at_call 9; refine (RL.out _ B16.out).mono ?_; rintro e w17 ⟨rfl, rfl⟩)
        refine hK.out _ _ (KS.out _ B16.out) (fun hH3 => ?_)
        clear hK K hH2
        refine wpAnyH_take (i := 18) (v := ?_) rfl (by kernel_rfl) (by kernel_rfl) (by kernel_rfl) (fun _ _ _ h => h) (Or.inl ⟨by rfl, ?_⟩) (by assumption) ?_
        rotate_left
        · (intro w hSw; (try dsimp only at hSw); first | (go_simp; done) | (go_simp; with_reducible rfl))
        simp only [Act.put, List.getElem_toArray, List.getElem_cons_zero, List.getElem_cons_succ, List.setIfInBounds_toArray, List.set_cons_zero, List.set_cons_succ]
        refine wpAnyH_take (i := 19) (v := ?_) rfl (by kernel_rfl) (by kernel_rfl) (by kernel_rfl) (fun _ _ _ h => h) (Or.inl ⟨by rfl, ?_⟩) (by assumption) ?_
        rotate_left
        · (intro w hSw; (try dsimp only at hSw); first | (go_simp; done) | (go_simp; with_reducible rfl))
        simp only [Act.put, List.getElem_toArray, List.getElem_cons_zero, List.getElem_cons_succ, List.setIfInBounds_toArray, List.set_cons_zero, List.set_cons_succ]
        refine wpAnyH_done (by kernel_rfl) ?_ _
        clear hH3
        have PE := Lib.hid (PF.out.keep B16.out)
        have HE := Lib.hid (HBF.out.trans (B16.out.mono HBF.out.size))
        clear KS RI LV RL BV B15 PF BOF HBF B16 LS LM
        go_wp2_with fail
        refine ⟨⟨k + 1, _, ia, ib, ic, G1, d1, G2, d2, G3, d3, X', cx', Y', cy', Z', cz', rfl, by go_num, by omega, HE.out, RN.out, PE.out⟩, by simp [intOf]; omega⟩
      | false =>
        obtain ⟨G1, d1, G2, d2, G3, d3, rfl, rfl, rfl⟩ := ot.tri.open3
        have zz := wrongAny_z he0
        obtain ⟨zn, rfl⟩ : ∃ zn : Nat, z = (zn : Int) := ⟨z.toNat, by omega⟩
        have ZZ := Lib.hid (show zn = 1 ∨ zn = 2 ∨ zn = 3 by omega)
        have hz1 : 1 ≤ zn := by omega
        have hz3 : zn < 4 := by omega
        have hz4 : ((zn : Int) < 4) = True := by simp; omega
        have RN := Lib.hid (rightH_new RH.out he0)
        have g5 : Blk (w7.alloc (.cells #[.int .i64 o, .slice G1 (na 1 (zn : Int) false p la).length d1, .slice G2 (na 2 (zn : Int) false p lb).length d2, .slice G3 (na 3 (zn : Int) false p lc).length d3] 24)) w7.heap.size 24 #[.int .i64 o, .slice G1 (na 1 (zn : Int) false p la).length d1, .slice G2 (na 2 (zn : Int) false p lb).length d2, .slice G3 (na 3 (zn : Int) false p lc).length d3] := Blk.new _ _ _
        have hm8 := made w7 (.cells #[.int .i64 o, .slice G1 (na 1 (zn : Int) false p la).length d1, .slice G2 (na 2 (zn : Int) false p lb).length d2, .slice G3 (na 3 (zn : Int) false p lc).length d3] 24)
        have hb8 := up ot.below hm8 ot.below.size
        have T8 := Lib.hid (ot.tri.below hm8)
        have WR8 := Lib.hid (WR.out _ hb8)
        rw [he0] at WR8
        have P8 := Lib.hid (PL6.out.keep hb8)
        have BO8 := Lib.hid (BO6.out.below hb8 BO6.out.lt)
        have G8 := Lib.hid g5
        have HB8 := Lib.hid (up HB6.out hb8 HB6.out.size)
        have q0 := BO8.out.cell 0
        have q1 := BO8.out.cell 1
        have q2 := BO8.out.cell 2
        have h0 := P8.out.box.cell 0
        have h1 := P8.out.box.cell 1
        have h2 := P8.out.box.cell 2
        have h3 := P8.out.box.cell 3
        clear g5 hm8 hb8 ot WR SE he0 zz p0 p1 p2 p3 o0 o1 o2
        go_wp2_with fail
        generalize w7.alloc (.cells #[.int .i64 o, .slice G1 (na 1 (zn : Int) false p la).length d1, .slice G2 (na 2 (zn : Int) false p lb).length d2, .slice G3 (na 3 (zn : Int) false p lc).length d3] 24) = w8 at *
        clear q0 q1 q2 h0 h1 h2 h3
        refine WR8.out.mono ?_
        rintro e w9 ⟨rfl, hb9⟩
        have P9 := Lib.hid (P8.out.keep hb9)
        have T9 := Lib.hid (Th3.of (T8.out.below hb9) (show b6 + 1 ≤ w6.heap.size from PL6.out.arr.lt))
        have G9 := G8.out.below hb9 G8.out.lt
        have BO9 := Lib.hid (BO8.out.below hb9 BO8.out.lt)
        have PH := Lib.hid (P9.out.house T9.out)
        have HB9 := Lib.hid (up HB8.out hb9 HB8.out.size)
        have g0 := G9.cell 0
        have g1 := G9.cell 1
        have g2 := G9.cell 2
        have g3 := G9.cell 3
        have f0 := P9.out.box.free 0
        have f1 := P9.out.box.free 1
        have f2 := P9.out.box.free 2
        have f3 := P9.out.box.free 3
        have h0 := P9.out.box.cell 0
        have h1 := P9.out.box.cell 1
        have h2 := P9.out.box.cell 2
        have h3 := P9.out.box.cell 3
        have q2 := BO9.out.cell 2
        have hne : wr.heap.size ≠ b5 := by have := NB5.out; omega
        have BOH := Lib.hid ((((BO9.out.far (p := ⟨b5, 0, none⟩) hne (.int .i64 o)).far (p := ⟨b5, 1, none⟩) hne (.slice G1 (na 1 (zn : Int) false p la).length d1)).far (p := ⟨b5, 2, none⟩) hne (.slice G2 (na 2 (zn : Int) false p lb).length d2)).far (p := ⟨b5, 3, none⟩) hne (.slice G3 (na 3 (zn : Int) false p lc).length d3))
        have HBH := Lib.hid ((((HB9.out.setCell (p := ⟨b5, 0, none⟩) LB5.out (.int .i64 o)).setCell (p := ⟨b5, 1, none⟩) LB5.out (.slice G1 (na 1 (zn : Int) false p la).length d1)).setCell (p := ⟨b5, 2, none⟩) LB5.out (.slice G2 (na 2 (zn : Int) false p lb).length d2)).setCell (p := ⟨b5, 3, none⟩) LB5.out (.slice G3 (na 3 (zn : Int) false p lc).length d3))
        clear hb9 G9 P8 T8 G8 BO8 HB8 WR8 PL6
        go_upto_region 14 with fail
        generalize (((w9.setCell ⟨b5, 0, none⟩ (.int .i64 o)).setCell ⟨b5, 1, none⟩ (.slice G1 (na 1 (zn : Int) false p la).length d1)).setCell ⟨b5, 2, none⟩ (.slice G2 (na 2 (zn : Int) false p lb).length d2)).setCell ⟨b5, 3, none⟩ (.slice G3 (na 3 (zn : Int) false p lc).length d3) = w10 at *
        clear g0 g1 g2 g3 f0 f1 f2 f3 h0 h1 h2 h3 q2 hne P9 T9 BO9 HB9
        obtain ⟨V, cv, hV, hVn⟩ := PH.out.cell ZZ.out
        have q2 := BOH.out.cell 2
        have RW := Lib.hid (fun ws (h : Below w10.heap.size w10 ws) => rwithout_any V cv (sel (zn : Int) la lb lc) p ws (nums_lay (hVn.keep h)) (by have := sel_len (z := (zn : Int)) RH.out; omega))
        have KS := Lib.hid (fun ws (h : Below w10.heap.size w10 ws) => (show ws.cell? ⟨wr.heap.size, 0, none⟩ = some (.int .i64 (zn : Int)) ∧ ws.cell? ⟨wr.heap.size, 1, none⟩ = some (.int .i64 p) from ⟨(BOH.out.below h BOH.out.lt).cell 0, (BOH.out.below h BOH.out.lt).cell 1⟩))
        have BV := Lib.hid (Below.refl w10.heap.size w10).drew
        clear hVn
        go_upto_region 16 with fail
        refine wp_region_held_drew (S := (fun ws => ws.cell? ⟨wr.heap.size, 0, none⟩ = some (.int .i64 (zn : Int)) ∧ ws.cell? ⟨wr.heap.size, 1, none⟩ = some (.int .i64 p))) (by kernel_rfl) (KS.out _ BV.out) (fun hHeld => ?_)
        have hV2 : w10.drew.cell? ⟨b6, zn, none⟩ = some (.slice V (sel (zn : Int) la lb lc).length cv) := hV
        generalize w10.drew = w11 at *
        clear hV q2
        refine wpAnyH_take (i := 0) (v := ?_) rfl (by kernel_rfl) (by kernel_rfl) (by kernel_rfl) (fun _ _ _ h => h) (Or.inl ⟨by rfl, ?_⟩) (by assumption) ?_
        rotate_left
        · (intro w hSw; (try dsimp only at hSw); first | (go_simp; done) | (go_simp; with_reducible rfl))
        simp only [Act.put, List.getElem_toArray, List.getElem_cons_zero, List.getElem_cons_succ, List.setIfInBounds_toArray, List.set_cons_zero, List.set_cons_succ]
        refine wpAnyH_take (i := 1) (v := ?_) rfl (by kernel_rfl) (by kernel_rfl) (by kernel_rfl) (fun _ _ _ h => h) (Or.inl ⟨by rfl, ?_⟩) (by assumption) ?_
        rotate_left
        · (intro w hSw; (try dsimp only at hSw); first | (go_simp; done) | (go_simp; with_reducible rfl))
        simp only [Act.put, List.getElem_toArray, List.getElem_cons_zero, List.getElem_cons_succ, List.setIfInBounds_toArray, List.set_cons_zero, List.set_cons_succ]
        refine wpAnyH_take (i := 2) (v := ?_) rfl (by kernel_rfl) (by kernel_rfl) (by kernel_rfl) (fun _ _ _ h => h) (Or.inl ⟨by rfl, ?_⟩) (by assumption) ?_
        rotate_left
        · (intro w hSw; (try dsimp only at hSw); first | (go_simp; done) | (go_simp; with_reducible rfl))
        simp only [Act.put, List.getElem_toArray, List.getElem_cons_zero, List.getElem_cons_succ, List.setIfInBounds_toArray, List.set_cons_zero, List.set_cons_succ]
        refine wpAnyH_take (i := 3) (v := ?_) rfl (by kernel_rfl) (by kernel_rfl) (by kernel_rfl) (fun _ _ _ h => h) (Or.inl ⟨by rfl, ?_⟩) (by assumption) ?_
        rotate_left
        · (intro w hSw; (try dsimp only at hSw); first | (go_simp; done) | (go_simp; with_reducible rfl))
        simp only [Act.put, List.getElem_toArray, List.getElem_cons_zero, List.getElem_cons_succ, List.setIfInBounds_toArray, List.set_cons_zero, List.set_cons_succ]
        refine wpAnyH_take (i := 4) (v := ?_) rfl (by kernel_rfl) (by kernel_rfl) (by kernel_rfl) (fun _ _ _ h => h) (Or.inl ⟨by rfl, ?_⟩) (by assumption) ?_
        rotate_left
        · (intro w hSw; (try dsimp only at hSw); first | (go_simp; done) | (go_simp; with_reducible rfl))
        simp only [Act.put, List.getElem_toArray, List.getElem_cons_zero, List.getElem_cons_succ, List.setIfInBounds_toArray, List.set_cons_zero, List.set_cons_succ]
        refine wpAnyH_take (i := 6) (v := ?_) rfl (by kernel_rfl) (by kernel_rfl) (by kernel_rfl) (fun _ _ _ h => h) (Or.inl ⟨by rfl, ?_⟩) (by assumption) ?_
        rotate_left
        · (intro w hSw; (try dsimp only at hSw); first | (go_simp; done) | (go_simp; with_reducible rfl))
        simp only [Act.put, List.getElem_toArray, List.getElem_cons_zero, List.getElem_cons_succ, List.setIfInBounds_toArray, List.set_cons_zero, List.set_cons_succ]
        refine wpAnyH_take (i := 7) (v := ?_) rfl (by kernel_rfl) (by kernel_rfl) (by kernel_rfl) (fun _ _ _ h => h) (Or.inl ⟨by rfl, ?_⟩) (by assumption) ?_
        rotate_left
        · (intro w hSw; (try dsimp only at hSw); first | (go_simp; done) | (go_simp; with_reducible rfl))
        simp only [Act.put, List.getElem_toArray, List.getElem_cons_zero, List.getElem_cons_succ, List.setIfInBounds_toArray, List.set_cons_zero, List.set_cons_succ]
        refine wpAnyH_ready (rs := [5]) (by kernel_rfl) (by simp) ?_
        refine AllReadyH.cons rfl (fun K hK => ?_) AllReadyH.nil
        go_simp
        refine hK.out _ _ (KS.out _ BV.out) (fun hH1 => ?_)
        clear hK K hHeld
        refine wpAnyH_ready (rs := [8]) (by kernel_rfl) (by simp) ?_
        refine AllReadyH.cons rfl (fun K hK => ?_) AllReadyH.nil
        go_simp
        go_wp2_with (go_at_call 22; refine (RW.out _ BV.out).mono ?_; rintro e w12 ⟨v9, rfl, own9a, hb12⟩)
        have own9b : il.OwnI w12 w11.heap.size v9 (nw false p (sel (zn : Int) la lb lc)) := own9a
        obtain ⟨V9, c9, rfl, -⟩ := own9b.open_
        have BV12 := Lib.hid (BV.out.trans (hb12.mono BV.out.size))
        have P12 := Lib.hid (PH.out.keep BV12.out)
        have own9 := own9b.mono (show b6 + 1 ≤ w11.heap.size from by have := PH.out.arr.lt; have := BV.out.size; omega)
        obtain ⟨X', cx', Y', cy', Z', cz', pl⟩ := P12.out.list ZZ.out own9
        have PF := Lib.hid pl
        have BO12 := BOH.out.below BV12.out BOH.out.lt
        have hne2 : wr.heap.size ≠ b6 := by have := NB5.out; omega
        have BOF := Lib.hid (BO12.far (p := ⟨b6, zn, none⟩) hne2 (.slice V9 (nw false p (sel (zn : Int) la lb lc)).length c9))
        have HBF := Lib.hid ((HBH.out.trans (BV12.out.mono HBH.out.size)).setCell (p := ⟨b6, zn, none⟩) LB6.out (.slice V9 (nw false p (sel (zn : Int) la lb lc)).length c9))
        have cz := (hb12.cell (p := ⟨b6, zn, none⟩) (by have := PH.out.arr.lt; have := BV.out.size; show b6 < _; omega)).trans hV2
        have fz := P12.out.arr.free zn
        refine hK.out _ _ (KS.out _ BV12.out) (fun hH2 => ?_)
        clear hK K hH1 own9 own9a own9b hb12 pl BO12
        refine wpAnyH_take (i := 9) (v := ?_) rfl (by kernel_rfl) (by kernel_rfl) (by kernel_rfl) (fun _ _ _ h => h) (Or.inl ⟨by rfl, ?_⟩) (by assumption) ?_
        rotate_left
        · (intro w hSw; (try dsimp only at hSw); first | (go_simp; done) | (go_simp; with_reducible rfl))
        simp only [Act.put, List.getElem_toArray, List.getElem_cons_zero, List.getElem_cons_succ, List.setIfInBounds_toArray, List.set_cons_zero, List.set_cons_succ]
        refine wpAnyH_ready (rs := [10]) (by kernel_rfl) (by simp) ?_
        refine AllReadyH.cons rfl (fun K hK => ?_) AllReadyH.nil
        go_simp
        refine hK.out _ _ ⟨BOF.out.cell 0, BOF.out.cell 1⟩ (fun hH3 => ?_)
        clear hK K hH2
        refine wpAnyH_done (by kernel_rfl) ?_ _
        clear hH3 hV2 cz fz hne2 KS RW
        generalize w12.setCell ⟨b6, zn, none⟩ (.slice V9 (nw false p (sel (zn : Int) la lb lc)).length c9) = w13 at *
        have LE := Lib.hid (Pl.lens RN.out)
        clear P12 PH BOH HBH BV12 BV
        obtain ⟨ia, hia⟩ : ∃ x, x = (na 1 (zn : Int) false p la) := ⟨_, rfl⟩
        obtain ⟨ib, hib⟩ : ∃ x, x = (na 2 (zn : Int) false p lb) := ⟨_, rfl⟩
        obtain ⟨ic, hic⟩ : ∃ x, x = (na 3 (zn : Int) false p lc) := ⟨_, rfl⟩
        rw [← hia, ← hib, ← hic] at PF RN LE
        rw [← hia, ← hib, ← hic]
        clear hia hib hic
        have LS := Lib.hid (PF.out.h.ls LE.out)
        have LM := Lib.hid (PF.out.m.ls LE.out)
        have KS := Lib.hid (fun ws (h : Below w13.heap.size w13 ws) => (show ws.cell? ⟨b5, 0, none⟩ = some (.int .i64 o) ∧ ws.cell? ⟨b5, 1, none⟩ = some (.slice G1 ia.length d1) ∧ ws.cell? ⟨b5, 2, none⟩ = some (.slice G2 ib.length d2) ∧ ws.cell? ⟨b5, 3, none⟩ = some (.slice G3 ic.length d3) ∧ ws.cell? ⟨b6, 1, none⟩ = some (.slice X' ia.length cx') ∧ ws.cell? ⟨b6, 2, none⟩ = some (.slice Y' ib.length cy') ∧ ws.cell? ⟨b6, 3, none⟩ = some (.slice Z' ic.length cz') ∧ ws.cell? ⟨wr.heap.size, 1, none⟩ = some (.int .i64 p) from ⟨(PF.out.keep h).box.cell 0, (PF.out.keep h).box.cell 1, (PF.out.keep h).box.cell 2, (PF.out.keep h).box.cell 3, (PF.out.keep h).arr.cell 1, (PF.out.keep h).arr.cell 2, (PF.out.keep h).arr.cell 3, (BOF.out.below h BOF.out.lt).cell 1⟩))
        have RI := Lib.hid (fun ws (h : Below w13.heap.size w13 ws) => hright_any o G1 d1 ia G2 d2 ib G3 d3 ic true (by simp; exact RN.out) ws (LS.out.keep h))
        have LV := Lib.hid (fun ws (h : Below w13.heap.size w13 ws) => level_any o G1 d1 ia G2 d2 ib G3 d3 ic p ws (LS.out.keep h))
        have RL := Lib.hid (fun ws (h : Below w13.heap.size w13 ws) => rlevel_any o X' cx' ia Y' cy' ib Z' cz' ic p ws (LM.out.keep h))
        have BV := Lib.hid (Below.refl w13.heap.size w13).drew
        generalize levelOf o ia ib ic p = lv at *
        go_upto_region 17 with fail
        refine wp_region_held_drew (S := (fun ws => ws.cell? ⟨b5, 0, none⟩ = some (.int .i64 o) ∧ ws.cell? ⟨b5, 1, none⟩ = some (.slice G1 ia.length d1) ∧ ws.cell? ⟨b5, 2, none⟩ = some (.slice G2 ib.length d2) ∧ ws.cell? ⟨b5, 3, none⟩ = some (.slice G3 ic.length d3) ∧ ws.cell? ⟨b6, 1, none⟩ = some (.slice X' ia.length cx') ∧ ws.cell? ⟨b6, 2, none⟩ = some (.slice Y' ib.length cy') ∧ ws.cell? ⟨b6, 3, none⟩ = some (.slice Z' ic.length cz') ∧ ws.cell? ⟨wr.heap.size, 1, none⟩ = some (.int .i64 p))) (by kernel_rfl) (KS.out _ BV.out) (fun hHeld => ?_)
        generalize w13.drew = w14 at *
        refine wpAnyH_take (i := 0) (v := ?_) rfl (by kernel_rfl) (by kernel_rfl) (by kernel_rfl) (fun _ _ _ h => h) (Or.inl ⟨by rfl, ?_⟩) (by assumption) ?_
        rotate_left
        · (intro w hSw; (try dsimp only at hSw); first | (go_simp; done) | (go_simp; with_reducible rfl))
        simp only [Act.put, List.getElem_toArray, List.getElem_cons_zero, List.getElem_cons_succ, List.setIfInBounds_toArray, List.set_cons_zero, List.set_cons_succ]
        refine wpAnyH_ready (rs := [1]) (by kernel_rfl) (by simp) ?_
        refine AllReadyH.cons rfl (fun K hK => ?_) AllReadyH.nil
        go_simp
        go_wp2_with (go_at_call 15; refine (RI.out _ BV.out).mono ?_; rintro e w15 ⟨rfl, hb15⟩)
        have B15 := Lib.hid (BV.out.trans (hb15.mono BV.out.size))
        refine hK.out _ _ (KS.out _ B15.out) (fun hH1 => ?_)
        clear hK K hHeld hb15
        refine wpAnyH_take (i := 2) (v := ?_) rfl (by kernel_rfl) (by kernel_rfl) (by kernel_rfl) (fun _ _ _ h => h) (Or.inl ⟨by rfl, ?_⟩) (by assumption) ?_
        rotate_left
        · (intro w hSw; (try dsimp only at hSw); first | (go_simp; done) | (go_simp; with_reducible rfl))
        simp only [Act.put, List.getElem_toArray, List.getElem_cons_zero, List.getElem_cons_succ, List.setIfInBounds_toArray, List.set_cons_zero, List.set_cons_succ]
        refine wpAnyH_take (i := 3) (v := ?_) rfl (by kernel_rfl) (by kernel_rfl) (by kernel_rfl) (fun _ _ _ h => h) (Or.inl ⟨by rfl, ?_⟩) (by assumption) ?_
        rotate_left
        · (intro w hSw; (try dsimp only at hSw); first | (go_simp; done) | (go_simp; with_reducible rfl))
        simp only [Act.put, List.getElem_toArray, List.getElem_cons_zero, List.getElem_cons_succ, List.setIfInBounds_toArray, List.set_cons_zero, List.set_cons_succ]
        refine wpAnyH_take (i := 4) (v := ?_) rfl (by kernel_rfl) (by kernel_rfl) (by kernel_rfl) (fun _ _ _ h => h) (Or.inl ⟨by rfl, ?_⟩) (by assumption) ?_
        rotate_left
        · (intro w hSw; (try dsimp only at hSw); first | (go_simp; done) | (go_simp; with_reducible rfl))
        simp only [Act.put, List.getElem_toArray, List.getElem_cons_zero, List.getElem_cons_succ, List.setIfInBounds_toArray, List.set_cons_zero, List.set_cons_succ]
        refine wpAnyH_take (i := 5) (v := ?_) rfl (by kernel_rfl) (by kernel_rfl) (by kernel_rfl) (fun _ _ _ h => h) (Or.inl ⟨by rfl, ?_⟩) (by assumption) ?_
        rotate_left
        · (intro w hSw; (try dsimp only at hSw); first | (go_simp; done) | (go_simp; with_reducible rfl))
        simp only [Act.put, List.getElem_toArray, List.getElem_cons_zero, List.getElem_cons_succ, List.setIfInBounds_toArray, List.set_cons_zero, List.set_cons_succ]
        refine wpAnyH_take (i := 6) (v := ?_) rfl (by kernel_rfl) (by kernel_rfl) (by kernel_rfl) (fun _ _ _ h => h) (Or.inl ⟨by rfl, ?_⟩) (by assumption) ?_
        rotate_left
        · (intro w hSw; (try dsimp only at hSw); first | (go_simp; done) | (go_simp; with_reducible rfl))
        simp only [Act.put, List.getElem_toArray, List.getElem_cons_zero, List.getElem_cons_succ, List.setIfInBounds_toArray, List.set_cons_zero, List.set_cons_succ]
        refine wpAnyH_take (i := 8) (v := ?_) rfl (by kernel_rfl) (by kernel_rfl) (by kernel_rfl) (fun _ _ _ h => h) (Or.inl ⟨by rfl, ?_⟩) (by assumption) ?_
        rotate_left
        · (intro w hSw; (try dsimp only at hSw); first | (go_simp; done) | (go_simp; with_reducible rfl))
        simp only [Act.put, List.getElem_toArray, List.getElem_cons_zero, List.getElem_cons_succ, List.setIfInBounds_toArray, List.set_cons_zero, List.set_cons_succ]
        refine wpAnyH_take (i := 9) (v := ?_) rfl (by kernel_rfl) (by kernel_rfl) (by kernel_rfl) (fun _ _ _ h => h) (Or.inl ⟨by rfl, ?_⟩) (by assumption) ?_
        rotate_left
        · (intro w hSw; (try dsimp only at hSw); first | (go_simp; done) | (go_simp; with_reducible rfl))
        simp only [Act.put, List.getElem_toArray, List.getElem_cons_zero, List.getElem_cons_succ, List.setIfInBounds_toArray, List.set_cons_zero, List.set_cons_succ]
        refine wpAnyH_take (i := 10) (v := ?_) rfl (by kernel_rfl) (by kernel_rfl) (by kernel_rfl) (fun _ _ _ h => h) (Or.inl ⟨by rfl, ?_⟩) (by assumption) ?_
        rotate_left
        · (intro w hSw; (try dsimp only at hSw); first | (go_simp; done) | (go_simp; with_reducible rfl))
        simp only [Act.put, List.getElem_toArray, List.getElem_cons_zero, List.getElem_cons_succ, List.setIfInBounds_toArray, List.set_cons_zero, List.set_cons_succ]
        refine wpAnyH_take (i := 11) (v := ?_) rfl (by kernel_rfl) (by kernel_rfl) (by kernel_rfl) (fun _ _ _ h => h) (Or.inl ⟨by rfl, ?_⟩) (by assumption) ?_
        rotate_left
        · (intro w hSw; (try dsimp only at hSw); first | (go_simp; done) | (go_simp; with_reducible rfl))
        simp only [Act.put, List.getElem_toArray, List.getElem_cons_zero, List.getElem_cons_succ, List.setIfInBounds_toArray, List.set_cons_zero, List.set_cons_succ]
        refine wpAnyH_take (i := 12) (v := ?_) rfl (by kernel_rfl) (by kernel_rfl) (by kernel_rfl) (fun _ _ _ h => h) (Or.inl ⟨by rfl, ?_⟩) (by assumption) ?_
        rotate_left
        · (intro w hSw; (try dsimp only at hSw); first | (go_simp; done) | (go_simp; with_reducible rfl))
        simp only [Act.put, List.getElem_toArray, List.getElem_cons_zero, List.getElem_cons_succ, List.setIfInBounds_toArray, List.set_cons_zero, List.set_cons_succ]
        refine wpAnyH_take (i := 13) (v := ?_) rfl (by kernel_rfl) (by kernel_rfl) (by kernel_rfl) (fun _ _ _ h => h) (Or.inl ⟨by rfl, ?_⟩) (by assumption) ?_
        rotate_left
        · (intro w hSw; (try dsimp only at hSw); first | (go_simp; done) | (go_simp; with_reducible rfl))
        simp only [Act.put, List.getElem_toArray, List.getElem_cons_zero, List.getElem_cons_succ, List.setIfInBounds_toArray, List.set_cons_zero, List.set_cons_succ]
        refine wpAnyH_take (i := 14) (v := ?_) rfl (by kernel_rfl) (by kernel_rfl) (by kernel_rfl) (fun _ _ _ h => h) (Or.inl ⟨by rfl, ?_⟩) (by assumption) ?_
        rotate_left
        · (intro w hSw; (try dsimp only at hSw); first | (go_simp; done) | (go_simp; with_reducible rfl))
        simp only [Act.put, List.getElem_toArray, List.getElem_cons_zero, List.getElem_cons_succ, List.setIfInBounds_toArray, List.set_cons_zero, List.set_cons_succ]
        refine wpAnyH_take (i := 15) (v := ?_) rfl (by kernel_rfl) (by kernel_rfl) (by kernel_rfl) (fun _ _ _ h => h) (Or.inl ⟨by rfl, ?_⟩) (by assumption) ?_
        rotate_left
        · (intro w hSw; (try dsimp only at hSw); first | (go_simp; done) | (go_simp; with_reducible rfl))
        simp only [Act.put, List.getElem_toArray, List.getElem_cons_zero, List.getElem_cons_succ, List.setIfInBounds_toArray, List.set_cons_zero, List.set_cons_succ]
        refine wpAnyH_take (i := 16) (v := ?_) rfl (by kernel_rfl) (by kernel_rfl) (by kernel_rfl) (fun _ _ _ h => h) (Or.inl ⟨by rfl, ?_⟩) (by assumption) ?_
        rotate_left
        · (intro w hSw; (try dsimp only at hSw); first | (go_simp; done) | (go_simp; with_reducible rfl))
        simp only [Act.put, List.getElem_toArray, List.getElem_cons_zero, List.getElem_cons_succ, List.setIfInBounds_toArray, List.set_cons_zero, List.set_cons_succ]
        refine wpAnyH_ready (rs := [7]) (by kernel_rfl) (by simp) ?_
        refine AllReadyH.cons rfl (fun K hK => ?_) AllReadyH.nil
        go_simp
        go_wp2_with (go_at_call 11; refine (LV.out _ B15.out).mono ?_; rintro e w16 ⟨rfl, hb16⟩)
        have B16 := Lib.hid (B15.out.trans (hb16.mono B15.out.size))
        refine hK.out _ _ (KS.out _ B16.out) (fun hH2 => ?_)
        clear hK K hH1 hb16
        refine wpAnyH_ready (rs := [17]) (by kernel_rfl) (by simp) ?_
        refine AllReadyH.cons rfl (fun K hK => ?_) AllReadyH.nil
        go_simp
        go_wp2_with (go_at_call 9; refine (RL.out _ B16.out).mono ?_; rintro e w17 ⟨rfl, rfl⟩)
        refine hK.out _ _ (KS.out _ B16.out) (fun hH3 => ?_)
        clear hK K hH2
        refine wpAnyH_take (i := 18) (v := ?_) rfl (by kernel_rfl) (by kernel_rfl) (by kernel_rfl) (fun _ _ _ h => h) (Or.inl ⟨by rfl, ?_⟩) (by assumption) ?_
        rotate_left
        · (intro w hSw; (try dsimp only at hSw); first | (go_simp; done) | (go_simp; with_reducible rfl))
        simp only [Act.put, List.getElem_toArray, List.getElem_cons_zero, List.getElem_cons_succ, List.setIfInBounds_toArray, List.set_cons_zero, List.set_cons_succ]
        refine wpAnyH_take (i := 19) (v := ?_) rfl (by kernel_rfl) (by kernel_rfl) (by kernel_rfl) (fun _ _ _ h => h) (Or.inl ⟨by rfl, ?_⟩) (by assumption) ?_
        rotate_left
        · (intro w hSw; (try dsimp only at hSw); first | (go_simp; done) | (go_simp; with_reducible rfl))
        simp only [Act.put, List.getElem_toArray, List.getElem_cons_zero, List.getElem_cons_succ, List.setIfInBounds_toArray, List.set_cons_zero, List.set_cons_succ]
        refine wpAnyH_done (by kernel_rfl) ?_ _
        clear hH3
        have PE := Lib.hid (PF.out.keep B16.out)
        have HE := Lib.hid (HBF.out.trans (B16.out.mono HBF.out.size))
        clear KS RI LV RL BV B15 PF BOF HBF B16 LS LM
        go_wp2_with fail
        refine ⟨⟨k + 1, _, ia, ib, ic, G1, d1, G2, d2, G3, d3, X', cx', Y', cy', Z', cz', rfl, by go_num, by omega, HE.out, RN.out, PE.out⟩, by simp [intOf]; omega⟩
  · have SA := Lib.hid (fun ws (h : Below wr.heap.size wr ws) => same_eq A ca la X cx ws (own_nums (hpl.keep h).h.a) (own_nums (hpl.keep h).m.a) (by have := LE.out; omega))
    have SB := Lib.hid (fun ws (h : Below wr.heap.size wr ws) => same_eq B cb lb Y cy ws (own_nums (hpl.keep h).h.b) (own_nums (hpl.keep h).m.b) (by have := LE.out; omega))
    have SC := Lib.hid (fun ws (h : Below wr.heap.size wr ws) => same_eq C cc lc Z cz ws (own_nums (hpl.keep h).h.c) (own_nums (hpl.keep h).m.c) (by have := LE.out; omega))
    have LV := Lib.hid (fun ws (h : Below wr.heap.size wr ws) => level_any o A ca la B cb lb C cc lc o ws ((hpl.keep h).h.ls LE.out))
    rw [level_own H12.out.1] at LV
    have AW := Lib.hid (fun ws (h : Below wr.heap.size wr ws) => awake_any ws ((TB.out.keep HBr.out).keep h))
    have m1 := hpl.arr.cell 1
    clear hpl hbr hrh
    go_wp2_with fail
    refine (SA.out _ (Below.refl _ _)).mono ?_
    rintro e w4 ⟨rfl, hb4⟩
    have H4 := Lib.hid hb4
    have P4 := PLr.out.keep H4.out
    have y2 := P4.box.cell 2
    have m2 := P4.arr.cell 2
    clear hb4 p0 p1 p2 p3 m1 P4
    go_wp2_with fail
    refine (SB.out _ H4.out).mono ?_
    rintro e w5 ⟨rfl, hb5⟩
    have H5 := Lib.hid (up H4.out hb5 H4.out.size)
    have P5 := PLr.out.keep H5.out
    have y3 := P5.box.cell 3
    have m3 := P5.arr.cell 3
    clear hb5 y2 m2 P5
    go_wp2_with fail
    refine (SC.out _ H5.out).mono ?_
    rintro e w6 ⟨rfl, hb6⟩
    have H6 := Lib.hid (up H5.out hb6 H5.out.size)
    have P6 := PLr.out.keep H6.out
    have z0 := P6.box.cell 0
    have z1 := P6.box.cell 1
    have z2 := P6.box.cell 2
    have z3 := P6.box.cell 3
    clear hb6 y3 m3 P6
    go_wp2_with fail
    refine (LV.out _ H6.out).mono ?_
    rintro e w7 ⟨rfl, hb7⟩
    have H7 := Lib.hid (up H6.out hb7 H6.out.size)
    clear hb7 z0 z1 z2 z3
    go_wp2_with fail
    refine (AW.out _ H7.out).mono ?_
    rintro e w8 ⟨rfl, hb8⟩
    have H8 := Lib.hid (up HBr.out (up H7.out hb8 H7.out.size) HBr.out.size)
    clear hb8
    go_wp2_with fail
    go_ret
    exact ⟨rfl, H8.out⟩

theorem walk (w : World) (hT : Tab w) (o : Int) (ho : (Lit.int .i64 o).wf = true) (K : Option Addr) (c : Nat) (D : List OpR) (hA : Lay EO w K D) (hc : D.length ≤ c) (hm : c ≤ maxLen) (hD : ∀ x, x ∈ D → True) :
    Calls Tryd.prog 6 #[.int .i64 o, .slice K D.length c] w fun e w' => e = .returned (.bool true) ∧ Below w.heap.size w w' := by
  unfold maxLen at hm
  by_cases h1 : o < 1
  · exact walk_lo w hT o K c D (by omega) h1
  by_cases h2 : 256 < o
  · exact walk_hi w hT o K c D (by omega) h2
  by_cases h3 : 80 < D.length
  · exact walk_long w hT o K c D (by omega) (by omega) (by omega) h3
  exact walk_main w hT o K c D hA (by omega) (by omega) (by omega)

theorem contract (H : Type) (enc : TypeId × Value → H) (W : World) (bs : Nat) (args : Array Value) (ds gs : List (DataW H)) (before : List MemPlace)
    (hval : ∀ (j : Nat) t v, Tryd.f6.params[j]? = some t → args[j]? = some v → Value.okWide Tryd.prog W .any bs t v)
    (hW : DataW.Whole enc Tryd.prog Tryd.f6.params.toList Rows.accessPlaysSpec.vars false W args.toList ds gs before) (hL : laidMetH Tryd.prog Rows.accessPlaysRow.laid W) :
    Calls Tryd.prog 6 args W fun e W' => ∃ v, e = .returned v ∧ Rows.accessPlaysSpec.post enc Tryd.prog Tryd.f6 false true false false W args v W' := by
  have hW' := hW
  obtain ⟨p, q, hA0, hV, rfl, _, _⟩ := hW
  have hA : DataW.TrodAll enc Tryd.prog W 0 (fun _ => true) true Tryd.f6.params.toList args.toList ds p := hA0
  rw [Tryd.params6] at hA hval
  obtain ⟨v0, vs0, d0, ds0, p0, q0, hargs, rfl, rfl, h0, r0⟩ := trodAll_cons hA
  obtain ⟨v1, vs1, d1, ds1, p1, q1, rfl, rfl, rfl, h1, r1⟩ := trodAll_cons r0
  obtain ⟨rfl, rfl, rfl⟩ := trodAll_nil r1
  obtain rfl : args = #[v0, v1] := by cases args; simp_all
  obtain ⟨rfl, rfl⟩ := trodVars_none hV
  obtain ⟨a0, rfl, rfl, rfl, w0⟩ := open_int Tryd.underlying3 (hval 0 3 v0 rfl rfl) h0
  obtain ⟨A1, c1, D1, rfl, b1, m1, n1, o1⟩ := acp.open_ops (hval 1 44 v1 rfl rfl) h1
  clear hA0
  refine (walk W (tableOf hL) a0 w0 A1 c1 D1 n1 b1 m1 o1).mono fun e W' ⟨he, hb⟩ => ?_
  subst he
  exact ⟨_, rfl, base.law_post base.laid (by kernel_rfl) rfl rfl Tryd.underlying4 hW' rfl rfl rfl hb⟩

noncomputable def laidWorld (os : Os) : World :=
  { World.holding Tryd.prog os ⟨#[], #[], []⟩ with heap := (World.holding Tryd.prog os ⟨#[], #[], []⟩).heap.modify 0 fun
      | .cells _ t frozen => .cells #[.int .i64 1, .int .i64 2, .int .i64 3, .int .i64 3, .int .i64 3, .int .i64 4, .int .i64 4, .int .i64 4, .int .i64 4, .int .i64 4, .int .i64 4] t frozen
      | o => o }
theorem laid_met (os : Os) : laidMet Tryd.prog Rows.accessPlaysRow.laid ((laidWorld os).forCall (fun _ _ => 0) ⟨#[], #[.int .i64 0, .slice none 0 0], []⟩).memory :=
  laidMet_of_run' 8 (by kernel_rfl) (by kernel_rfl)
theorem reads (os : Os) {H : Type} (enc : TypeId × Value → H) : ∃ places, DataW.whole enc Tryd.prog ((laidWorld os).forCall (fun _ _ => 0) ⟨#[], #[.int .i64 0, .slice none 0 0], []⟩).memory Tryd.f6.params.toList Rows.accessPlaysSpec.vars false (#[.int .i64 0, .slice none 0 0] : Array Value).toList 8 = some ([.lit (.int .i64 0), .nil], [], places) :=
  ⟨[], by kernel_rfl⟩

set_option maxRecDepth 100000 in
theorem lifted (os : Os) (started : os.Started) (H : Type) (enc : TypeId × Value → H) (F : Stop.Interp) :
    ReturnsInHanded {} Tryd.checked os 6 .any ((OpenSpec.ofChange Rows.accessPlaysSpec).preRow enc Tryd.prog Tryd.f6 Rows.accessPlaysRow.domain false Rows.accessPlaysRow.laid) (((OpenSpec.ofChange Rows.accessPlaysSpec).at F).post enc Tryd.prog Tryd.f6 false true false false) := by
  obtain ⟨places, hx⟩ := reads os enc
  refine returnsInHanded_of_row (C := Tryd.checked) (s := OpenSpec.ofChange Rows.accessPlaysSpec) base.own started (by kernel_rfl) Tryd.func6
    (witness_row_at (enc := enc) (C := Tryd.checked) false (laidWorld os) #[.int .i64 0, .slice none 0 0] rfl (by kernel_rfl) (by kernel_rfl) (by kernel_rfl)
      (OpenSpec.preRow_of_cond 8 hx (by kernel_rfl) (fun k hk => by cases hk) (by kernel_rfl) (laid_met os))) ?_
  intro W bs args ds gs before hval hW _ _ _ hL _ _
  exact contract H enc W bs args ds gs before hval hW hL

theorem said : Rows.AccessPlaysSaid :=
  OpenClaim.holds_of_cond 6 Tryd.f6 rfl rfl rfl rfl rfl rfl rfl ⟨rfl, rfl, rfl, rfl, rfl⟩ rfl rfl rfl rfl rfl (by kernel_rfl) Tryd.func6 (by kernel_rfl)
    (of_decide_eq_true (by kernel_rfl)) (by unfold Func.isWrapper; first | (rw [if_pos (by decide +kernel)]; kernel_rfl) | (rw [if_neg (by decide +kernel)]; exact ⟨rfl, rfl⟩))
    (fun os started H enc _ F => by rw [OpenClaim.pre_eq_preRow]; exact lifted os started H enc F)

theorem plain (f : FuncId) (fn : Func) (hf : Tryd.pinned.checked.prog.funcNamed "deedhold/deedholdlaw18.AccessPlays" = some f) (hfn : Tryd.pinned.checked.prog.funcs[f]? = some fn) :
    false = Tryd.pinned.checked.prog.looks [] ∧ ∀ (j : Nat) t, fn.params[j]? = some t → Tryd.pinned.checked.prog.wantsStandIn t = false := by
  obtain rfl : f = 6 := Option.some.inj ((show Tryd.prog.funcNamed "deedhold/deedholdlaw18.AccessPlays" = some 6 by kernel_rfl).symm.trans hf) |>.symm
  obtain rfl : fn = Tryd.f6 := (Option.some.inj (Tryd.func6.symm.trans hfn)).symm
  refine ⟨by kernel_rfl, fun j t ht => ?_⟩
  rw [Tryd.params6] at ht
  have ht2 : t = 3 ∨ t = 44 := by simpa using Array.mem_of_getElem? ht
  rcases ht2 with rfl | rfl
  all_goals first | exact (show Tryd.prog.wantsStandIn _ = false by kernel_rfl)

theorem card : Rows.AccessPlaysCardSaid :=
  Claim7.holds_tied_plain_at .later [] _ _ _ _ said (fun _ h => by cases h) (by kernel_rfl) (fun _ h => by cases h) accessPlays_row_tie rfl ⟨rfl, rfl⟩ (by kernel_rfl) rfl plain (by kernel_rfl)
#print axioms card
end Go.Proofs.YtemkhblogmdleaaDoor.accessPlays
