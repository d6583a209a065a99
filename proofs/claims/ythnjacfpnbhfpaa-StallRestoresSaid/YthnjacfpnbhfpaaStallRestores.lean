/-
  StallRestores: rows that are given make stalls, or none; what is told is no part of them.
-/
import Derived.Test.YthnjacfpnbhfpaaStEE
import Derived.Test.YthnjacfpnbhfpaaStU
import Derived.Test.YthnjacfpnbhfpaaBase2
namespace Go.Proofs.Ythnjacfpnbhfpaa.stallRestores
open Go.ChangeShapes Go.WideShapes Go.ChangeAt Go.RowKit
open st mk rk
open base (ret_bool ret_int made up Blk Only)
set_option linter.unusedVariables false
set_option linter.unusedSimpArgs false

theorem five (a b c d e : Bool) : a = false ∨ (a = true ∧ b = false) ∨ (a = true ∧ b = true ∧ c = false) ∨ (a = true ∧ b = true ∧ c = true ∧ d = false) ∨ (a = true ∧ b = true ∧ c = true ∧ d = true ∧ e = false) ∨ (a = true ∧ b = true ∧ c = true ∧ d = true ∧ e = true) := by
  revert a b c d e
  decide
def Shp (W : World) (b : Nat) (A : Option Addr) (n : Nat) : Prop := 0 < n → ∃ g off cs, A = some ⟨g, off, none⟩ ∧ b ≤ g ∧ Blk W g 56 cs ∧ ∀ i, i < n → off + i * 2 + 1 < cs.size
theorem shp_of {W : World} {b c : Nat} {A : Option Addr} {X : List C2} (o : rk.Own E2 W b 56 (.slice A X.length c) X) : Shp W b A X.length := fun h0 => by
  obtain ⟨g, off, e, -⟩ := lay2 (layE o) h0
  subst e
  obtain ⟨h1, -, cs, h2⟩ := rk.Own.lt' o g rfl
  refine ⟨g, off, cs, rfl, h1, h2, fun i hi => ?_⟩
  have := (lay2c (layE o) hi).2
  rw [h2.cell] at this
  exact (Array.getElem?_eq_some_iff.1 this).1
theorem Shp.below {W W2 : World} {b n : Nat} {A : Option Addr} (h : Shp W b A n) (hb : Below W.heap.size W W2) : Shp W2 b A n := fun h0 => by
  obtain ⟨g, off, cs, e, h1, h2, h3⟩ := h h0
  exact ⟨g, off, cs, e, h1, h2.below hb h2.lt, h3⟩
theorem Shp.set {W : World} {b n g' j : Nat} {A : Option Addr} {cs' : Array Value} (h : Shp W b A n) (h' : Blk W g' 56 cs') (v : Value) : Shp (W.setCell ⟨g', j, none⟩ v) b A n := fun h0 => by
  obtain ⟨g, off, cs, e, h1, h2, h3⟩ := h h0
  by_cases q : g = g'
  · subst q
    exact ⟨g, off, _, e, h1, h2.put j v, fun i hi => by rw [Array.size_setIfInBounds]; exact h3 i hi⟩
  · exact ⟨g, off, cs, e, h1, h2.far (p := ⟨g', j, none⟩) q v, h3⟩
theorem finB {w w5 : World} {z b0 C : Nat} {u0 u1 va vb : Value} {T : List C2} {G : List G3} (hb : Below b0 w w5) (b : Blk w5 z 29 #[u0, u1]) (hz : b0 ≤ z) (o1 : rk.Own E2 w5 C 71 va T) (o2 : rk.Own E3 w5 C 69 vb G) :
    Blk ((w5.setCell ⟨z, 0, none⟩ va).setCell ⟨z, 1, none⟩ vb) z 29 #[va, vb] ∧ rk.Own E2 ((w5.setCell ⟨z, 0, none⟩ va).setCell ⟨z, 1, none⟩ vb) C 71 va T ∧ rk.Own E3 ((w5.setCell ⟨z, 0, none⟩ va).setCell ⟨z, 1, none⟩ vb) C 69 vb G ∧ Below b0 w ((w5.setCell ⟨z, 0, none⟩ va).setCell ⟨z, 1, none⟩ vb) ∧ w5.frozen? ⟨z, 0, none⟩ = false ∧ w5.frozen? ⟨z, 1, none⟩ = false ∧ w5.cell? ⟨z, 0, none⟩ = some u0 ∧ w5.cell? ⟨z, 1, none⟩ = some u1 ∧
    (∀ k t cs, Blk w5 k t cs → k ≠ z → Blk ((w5.setCell ⟨z, 0, none⟩ va).setCell ⟨z, 1, none⟩ vb) k t cs) := by
  have b2 := (b.put 0 va).put 1 vb
  simp only [List.setIfInBounds_toArray, List.set_cons_zero, List.set_cons_succ] at b2
  refine ⟨b2, rk.Own.keep o1 (fun k hk => ?_), rk.Own.keep o2 (fun k hk => ?_), (hb.setCell (p := ⟨z, 0, none⟩) hz _).setCell (p := ⟨z, 1, none⟩) hz _, b.free 0, b.free 1, b.cell 0, b.cell 1, fun k t cs h hne => (h.far (p := ⟨z, 0, none⟩) hne _).far (p := ⟨z, 1, none⟩) hne _⟩
  · obtain ⟨_, _, cs, h1⟩ := rk.Own.lt' o1 k hk
    have hne : k ≠ z := ne_of_ty h1 b (by decide)
    exact (Below.heap_setCell _ ⟨z, 1, none⟩ _ k hne).trans (Below.heap_setCell _ ⟨z, 0, none⟩ _ k hne)
  · obtain ⟨_, _, cs, h1⟩ := rk.Own.lt' o2 k hk
    have hne : k ≠ z := ne_of_ty h1 b (by decide)
    exact (Below.heap_setCell _ ⟨z, 1, none⟩ _ k hne).trans (Below.heap_setCell _ ⟨z, 0, none⟩ _ k hne)
set_option maxRecDepth 100000 in
set_option maxHeartbeats 2000000 in
theorem walk_no (w : World) (A : Option Addr) (D : List DR) (c : Nat) (hm : D.length ≤ 9223372036854775807) (h : 30 < D.length) :
    Calls Try.prog 5 #[.slice A D.length c] w fun e w' => e = .returned (.bool true) ∧ Below w.heap.size w w' := by
  have AW := Lib.hid (awake_any w)
  have B1 := Lib.hid (Below.refl w.heap.size w)
  go_enter Try.func5, Try.ntmps5
  go_wp2_with fail
  refine AW.out.mono ?_
  rintro e w2 ⟨rfl, hba⟩
  have BA := Lib.hid hba
  clear hba
  go_wp2_with fail
  go_ret
  exact ⟨rfl, BA.out⟩
set_option maxRecDepth 100000 in
set_option maxHeartbeats 16000000 in
theorem walk_yes (w : World) (A : Option Addr) (D : List DR) (c : Nat) (HR0 : st.RowsIn w A D) (hm : D.length ≤ 30) :
    Calls Try.prog 5 #[.slice A D.length c] w fun e w' => e = .returned (.bool true) ∧ Below w.heap.size w w' := by
  have AW := Lib.hid (fun ws => awake_any ws)
  have HR := Lib.hid HR0
  have hmx := made w (.cells #[.slice none 0 0, .slice none 0 0] 29)
  have B1 := Lib.hid hmx
  have BX1 := Lib.hid (Blk.new w 29 #[.slice none 0 0, .slice none 0 0])
  clear HR0 hmx
  go_enter Try.func5, Try.ntmps5
  go_upto_region 5 with fail
  generalize w.alloc (.cells #[.slice none 0 0, .slice none 0 0] 29) = w1 at *
  have HXB := Lib.hid (Nat.le_refl w.heap.size)
  go_wp2_with fail
  go_loopw [4, 5, 24] (fun ok la ix wr => ∃ (k : Nat) (W : World) (va vb : Value), W = wr ∧ k ≤ D.length ∧ ix = .int .i64 k ∧ ok = .bool (lfold (D.take k)).2.1 ∧ la = .int .i64 (lfold (D.take k)).2.2 ∧ Blk wr w.heap.size 29 #[va, vb] ∧ rk.Own E2 wr w.heap.size 71 va (lfold (D.take k)).1.1 ∧ rk.Own E3 wr w.heap.size 69 vb (lfold (D.take k)).1.2 ∧ (lfold (D.take k)).1.1.length ≤ k ∧ (lfold (D.take k)).1.2.length ≤ 30 * k ∧ (∀ j (hj : j < D.length), j < k → D[j].2.length ≤ 30) ∧ Below w.heap.size w wr) (fun _ _ ix _ => D.length - (intOf ix).toNat)
  case atStart => exact ⟨0, _, _, _, rfl, by omega, rfl, rfl, rfl, BX1.out, rk.Own.nil _ _ _, rk.Own.nil _ _ _, Nat.le_refl _, Nat.le_refl _, fun j hj h => by omega, B1.out⟩
  case round =>
  clear BX1 B1
  obtain ⟨k, w2, va, vb, rfl, hk, rfl, rfl, rfl, hbx, oT, oG, lT, lG, hall, hb⟩ := hrel
  have BX2 := Lib.hid hbx
  have OT2 := Lib.hid oT
  have OG2 := Lib.hid oG
  have B2 := Lib.hid hb
  have AL := Lib.hid hall
  clear hbx oT oG hb hall
  by_cases hkl : k < D.length
  · have hkm : k < (D.map (·.1)).length := by simpa using hkl
    obtain ⟨bb, off, eA, e0, e1, e2⟩ := layR (HR.out.lay.below B2.out) hkm
    have hgd : (D.map (·.1))[k] = D[k].1 := by simp
    rw [hgd] at e0 e1 e2
    obtain ⟨l1, l2_, l3, l4⟩ := HR.out.each _ (List.getElem_mem hkl)
    have LS := Lib.hid (lfold_snoc D hkl)
    have LR := Lib.hid (lrow_len (lfold (D.take k)) D[k])
    have AK := Lib.hid (fun (q : D[k].2.length ≤ 30) => show ∀ j (hj : j < D.length), j < k + 1 → D[j].2.length ≤ 30 from fun j hj h => by
      by_cases e : j = k
      · subst e; exact q
      · exact AL.out j hj (by omega))
    clear hgd
    generalize D[k] = d at *
    obtain ⟨⟨h, u, Ar, nr, cr⟩, gs⟩ := d
    dsimp only at e0 e1 e2 l1 l2_ l3 l4
    subst l2_
    have LG := Lib.hid l1
    have hm3 := made w2 (.cells #[.int .i64 h, .int .i64 u, .slice Ar gs.length cr] 47)
    have BX3 := Lib.hid (BX2.out.below hm3 BX2.out.lt)
    have OT3 := Lib.hid (rk.Own.below OT2.out hm3)
    have OG3 := Lib.hid (rk.Own.below OG2.out hm3)
    have B3 := Lib.hid (up B2.out hm3 B2.out.size)
    have BR3 := Lib.hid (Blk.new w2 47 #[.int .i64 h, .int .i64 u, .slice Ar gs.length cr])
    clear hm3 BX2 OT2 OG2 B2 l1 l3 l4
    generalize hst : lfold (D.take k) = st at *
    obtain ⟨⟨T, G⟩, b1, la⟩ := st
    dsimp only at lT lG
    obtain ⟨At, ct, rfl, -⟩ := rk.Own.open_ OT3.out
    obtain ⟨Ag, cg, rfl, -⟩ := rk.Own.open_ OG3.out
    subst eA
    go_upto_region 8 with fail
    generalize w2.alloc (.cells #[.int .i64 h, .int .i64 u, .slice Ar gs.length cr] 47) = w3 at *
    generalize w2.heap.size = rb at *
    clear e0 e1 e2 hst
    have r0 := BR3.out.cell 0
    have r1 := BR3.out.cell 1
    have r2 := BR3.out.cell 2
    by_cases q30 : 30 < gs.length
    · have z : decide ((gs.length : Int) > 30) = true := decide_eq_true (by omega)
      have z' : decide ((30 : Int) < gs.length) = true := decide_eq_true (by omega)
      go_wp2_with fail
      refine (AW.out _).mono ?_
      rintro e w4 ⟨rfl, hba⟩
      have BA := Lib.hid (up B3.out hba B3.out.size)
      clear hba
      go_wp2_with fail
      go_ret
      exact ⟨rfl, BA.out⟩
    have z : decide ((gs.length : Int) > 30) = false := decide_eq_false (by omega)
    have z' : decide ((30 : Int) < gs.length) = false := decide_eq_false (by omega)
    have AK2 := Lib.hid (AK.out (by dsimp only; omega))
    have x0 := BX3.out.cell 0
    have x1 := BX3.out.cell 1
    have OPN := Lib.hid (ropen_any At ct T Ag cg G h w3 OT3.out OG3.out (by omega) (by omega) B3.out.size)
    clear AK
    go_wp2_with fail
    refine OPN.out.mono ?_
    rintro e w4 ⟨va, vb, rfl, oa, ob, hb4⟩
    obtain ⟨l2, hl2⟩ : ∃ l2, l2 = lset ((T, G), b1, la) ((h, u, Ar, gs.length, cr), gs) := ⟨_, rfl⟩
    have LL := lset_len ((T, G), b1, la) ((h, u, Ar, gs.length, cr), gs)
    rw [← hl2] at LL
    have HL2 := Lib.hid (show l2 = (setL (ropenL T G h).1 h u, (ropenL T G h).2) from hl2)
    have hL5 : (ropenL T G h).1.length ≤ k + 1 ∧ (ropenL T G h).2.length ≤ 30 * k := by
      unfold ropenL
      split
      · refine ⟨?_, lG⟩
        show (ins kT _ _).length ≤ _
        rw [len_ins]
        omega
      · exact ⟨Nat.le_succ_of_le lT, lG⟩
    obtain ⟨ok0, hok0⟩ : ∃ b, b = lok ((T, G), b1, la) ((h, u, Ar, gs.length, cr), gs) := ⟨_, rfl⟩
    have LS2 := Lib.hid (show lfold (D.take (k + 1)) = ((lput h gs l2 ok0 gs.length).1, (lput h gs l2 ok0 gs.length).2, h) from by rw [LS.out, hl2, hok0]; rfl)
    replace hok0 : ok0 = (b1 && decide (ropenE T h = 0) && decide (la < h) && decide (0 ≤ u) && decide (u ≤ 1099511627776)) := hok0
    clear LS hl2
    generalize hT5 : (ropenL T G h).1 = T5 at *
    generalize hG5 : (ropenL T G h).2 = G5 at *
    generalize hE5 : ropenE T h = er at *
    clear hT5 hG5 hE5
    obtain ⟨A5, c5, rfl, -⟩ := rk.Own.open_ oa
    obtain ⟨C5, e5, rfl, -⟩ := rk.Own.open_ ob
    have hbx := BX3.out.below hb4 BX3.out.lt
    have hbr := BR3.out.below hb4 BR3.out.lt
    obtain ⟨bx5, oa5, ob5, b5, f0, f1, z0, z1, far⟩ := finB (up B3.out hb4 B3.out.size) hbx HXB.out oa ob
    have BR5 := Lib.hid (far _ _ _ hbr (ne_of_ty hbr hbx (by decide)))
    have BX5 := Lib.hid bx5
    have OA5 := Lib.hid oa5
    have OB5 := Lib.hid ob5
    have B5 := Lib.hid b5
    clear oa ob hb4 hbx hbr bx5 oa5 ob5 b5 far OPN x0 x1 r0 r1 r2 z z' OT3 OG3 BX3 BR3 B3
    go_upto_region 12 with fail
    generalize ((w4.setCell ⟨w.heap.size, 0, none⟩ (.slice A5 T5.length c5)).setCell ⟨w.heap.size, 1, none⟩ (.slice C5 G5.length e5)) = w5 at *
    clear f0 f1 z0 z1
    have x0 := BX5.out.cell 0
    have x1 := BX5.out.cell 1
    have r0 := BR5.out.cell 0
    have r1 := BR5.out.cell 1
    have LLH := Lib.hid LL
    clear LL
    clear AL
    rcases five b1 (er == 0) (decide (la < h)) (decide (0 ≤ u)) (decide (u ≤ 1099511627776)) with z1 | ⟨z1, z2⟩ | ⟨z1, z2, z3⟩ | ⟨z1, z2, z3, z4⟩ | ⟨z1, z2, z3, z4, z5⟩ | ⟨z1, z2, z3, z4, z5⟩
    · subst z1
      obtain rfl : ok0 = false := by rw [hok0]; simp only [Bool.true_and, Bool.false_and, Bool.and_false]
      clear hok0
      have RSS := Lib.hid (rset_any A5 c5 T5 C5 e5 G5 h u w5 OA5.out OB5.out (by omega) B5.out.size)
      go_wp2_with fail
      refine RSS.out.mono ?_
      rintro e w6 ⟨va, vb, rfl, oa, ob, hb6⟩
      obtain ⟨A6, c6, rfl, -⟩ := oa.open_
      obtain ⟨C6, e6, rfl, -⟩ := ob.open_
      have hbx := BX5.out.below hb6 BX5.out.lt
      have hbr := BR5.out.below hb6 BR5.out.lt
      obtain ⟨bx7, oa7, ob7, b7, f0, f1, z0, z1, far⟩ := finB (up B5.out hb6 B5.out.size) hbx HXB.out oa ob
      have BR7 := Lib.hid (far _ _ _ hbr (ne_of_ty hbr hbx (by decide)))
      have BX7 := Lib.hid bx7
      have hr2 := BR7.out.cell 2
      have OA7 := Lib.hid (show rk.Own E2 _ w.heap.size 71 _ l2.1 from by rw [HL2.out]; exact oa7)
      have OB7 := Lib.hid (show rk.Own E3 _ w.heap.size 69 _ l2.2 from by rw [HL2.out]; exact ob7)
      have B7 := Lib.hid b7
      clear oa ob hb6 hbx hbr bx7 oa7 ob7 b7 far RSS x0 x1 r0 r1 
      go_upto_region 15 with fail
      generalize ((w6.setCell ⟨w.heap.size, 0, none⟩ (.slice A6 (setL T5 h u).length c6)).setCell ⟨w.heap.size, 1, none⟩ (.slice C6 G5.length e6)) = w7 at *
      clear f0 f1 z0 z1
      go_upto_region 15 with fail
      go_wp2_with fail
      go_loopw [4, 8, 72] (fun ok er ix wr => ∃ (i : Nat) (W : World) (va vb : Value) (erz : Int), W = wr ∧ i ≤ gs.length ∧ ix = .int .i64 i ∧ ok = .bool (lput h gs l2 false i).2 ∧ er = .int .i64 erz ∧ Blk wr w.heap.size 29 #[va, vb] ∧ rk.Own E2 wr w.heap.size 71 va (lput h gs l2 false i).1.1 ∧ rk.Own E3 wr w.heap.size 69 vb (lput h gs l2 false i).1.2 ∧ Blk wr rb 47 #[.int .i64 h, .int .i64 u, .slice Ar gs.length cr] ∧ Below w.heap.size w wr) (fun _ _ ix _ => gs.length - (intOf ix).toNat)
      case atStart => exact ⟨0, _, _, _, _, rfl, by omega, rfl, rfl, rfl, BX7.out, OA7.out, OB7.out, BR7.out, B7.out⟩
      case round =>
      clear BX7 OA7 OB7 BR7 B7
      obtain ⟨i, w8, va, vb, erz, rfl, hi, rfl, rfl, rfl, hbx, oT, oG, hbr, hb⟩ := hrel
      have BX8 := Lib.hid hbx
      have OT8 := Lib.hid oT
      have OG8 := Lib.hid oG
      have BR8 := Lib.hid hbr
      have B8 := Lib.hid hb
      obtain ⟨l8, l9⟩ := lput_len h gs l2 false i
      have LN8 := Lib.hid l8
      clear hbx oT oG hbr hb l8
      by_cases hil : i < gs.length
      · have LK := LG.out.below B8.out
        obtain ⟨bb, off, eA, e0, e1⟩ := lay2 LK hil
        have ed : gs.getD i (0, 0) = gs[i] := by simp [List.getD, hil]
        have E1_ := Lib.hid (show (lput h gs l2 false (i + 1)).1 = rputL (lput h gs l2 false i).1.1 (lput h gs l2 false i).1.2 h gs[i].1 gs[i].2 from by
          show rputL _ _ h (gs.getD i (0, 0)).1 (gs.getD i (0, 0)).2 = _
          rw [ed])
        have E2_ := Lib.hid (show (lput h gs l2 false (i + 1)).2 = ((lput h gs l2 false i).2 && decide (rputE (lput h gs l2 false i).1.1 (lput h gs l2 false i).1.2 h gs[i].1 gs[i].2 = 0) && (decide (i = 0) || decide ((gs.getD (i - 1) (0, 0)).1 < gs[i].1))) from by
          show (_ && decide (rputE _ _ h (gs.getD i (0, 0)).1 (gs.getD i (0, 0)).2 = 0) && (_ || decide (_ < (gs.getD i (0, 0)).1))) = _
          rw [ed])
        clear LK ed
        generalize gs[i] = d at *
        obtain ⟨t, p⟩ := d
        dsimp only at e0 e1
        have hm9 := made w8 (.cells #[.int .i64 t, .int .i64 p] 56)
        have BX9 := Lib.hid (BX8.out.below hm9 BX8.out.lt)
        have OT9 := Lib.hid (OT8.out.below hm9)
        have OG9 := Lib.hid (OG8.out.below hm9)
        have BR9 := Lib.hid (BR8.out.below hm9 BR8.out.lt)
        have B9 := Lib.hid (up B8.out hm9 B8.out.size)
        have BG9 := Lib.hid (Blk.new w8 56 #[.int .i64 t, .int .i64 p])
        clear hm9 BX8 OT8 OG8 BR8 B8
        generalize hst : (lput h gs l2 false i).2 = okb at *
        generalize (lput h gs l2 false i).1.1 = T8 at *
        generalize (lput h gs l2 false i).1.2 = G8 at *
        obtain ⟨Ax, cx, rfl, -⟩ := OT9.out.open_
        obtain ⟨Ay, cy, rfl, -⟩ := OG9.out.open_
        subst eA
        go_upto_region 18 with fail
        generalize w8.alloc (.cells #[.int .i64 t, .int .i64 p] 56) = w9 at *
        generalize w8.heap.size = gb at *
        clear e0 e1
        have x0 := BX9.out.cell 0
        have x1 := BX9.out.cell 1
        have r0 := BR9.out.cell 0
        have g0 := BG9.out.cell 0
        have g1 := BG9.out.cell 1
        have ln8 : T8.length ≤ T.length + 1 := by rw [LN8.out]; exact LLH.out.1
        have ln9 : l2.2.length = G.length := congrArg List.length LLH.out.2
        have PU := Lib.hid (rput_any Ax cx T8 Ay cy G8 h t p w9 OT9.out OG9.out (by omega) (by omega) B9.out.size)
        clear ln8 ln9
        go_wp2_with fail
        refine PU.out.mono ?_
        rintro e w10 ⟨va, vb, rfl, oa, ob, hb10⟩
        obtain ⟨A4, c4, rfl, -⟩ := oa.open_
        obtain ⟨C4, e4, rfl, -⟩ := ob.open_
        have hbx := BX9.out.below hb10 BX9.out.lt
        have hbg := BG9.out.below hb10 BG9.out.lt
        have hbr := BR9.out.below hb10 BR9.out.lt
        obtain ⟨bx11, oa11, ob11, b11, f0, f1, z0, z1, far⟩ := finB (up B9.out hb10 B9.out.size) hbx HXB.out oa ob
        have BG11 := Lib.hid (far _ _ _ hbg (ne_of_ty hbg hbx (by decide)))
        have BR11 := Lib.hid (far _ _ _ hbr (ne_of_ty hbr hbx (by decide)))
        have BX11 := Lib.hid bx11
        have OA11 := Lib.hid (show rk.Own E2 _ w.heap.size 71 _ (lput h gs l2 false (i + 1)).1.1 from by rw [E1_.out]; exact oa11)
        have OB11 := Lib.hid (show rk.Own E3 _ w.heap.size 69 _ (lput h gs l2 false (i + 1)).1.2 from by rw [E1_.out]; exact ob11)
        have B11 := Lib.hid b11
        clear oa ob hb10 hbx hbg hbr bx11 oa11 ob11 b11 far PU x0 x1 r0 g0 g1 OT9 OG9 BX9 BR9 BG9 B9
        go_upto_region 19 with fail
        generalize ((w10.setCell ⟨w.heap.size, 0, none⟩ (.slice A4 (rputL T8 G8 h t p).1.length c4)).setCell ⟨w.heap.size, 1, none⟩ (.slice C4 (rputL T8 G8 h t p).2.length e4)) = w11 at *
        clear f0 f1 z0 z1
        rw [lput_false] at hst
        subst hst
        have SS := Lib.hid (show w11.drew.cell? ⟨gb, 0, none⟩ = some (.int .i64 t) ∧ w11.drew.cell? ⟨rb, 2, none⟩ = some (.slice (some ⟨bb, off, none⟩) gs.length cr) from ⟨(BG11.out.below (drewB4 w11) BG11.out.lt).cell 0, (BR11.out.below (drewB4 w11) BR11.out.lt).cell 2⟩)
        refine wp_region_held_drew (S := fun W => W.cell? ⟨gb, 0, none⟩ = some (.int .i64 t) ∧ W.cell? ⟨rb, 2, none⟩ = some (.slice (some ⟨bb, off, none⟩) gs.length cr)) (by kernel_rfl) SS.out (fun hHeld => ?_)
        refine wpAnyH_take (i := 0) (v := ?_) rfl (by kernel_rfl) (by kernel_rfl) (by kernel_rfl) (fun _ _ _ h => h) (Or.inl ⟨by rfl, ?_⟩) (by assumption) ?_
        rotate_left
        · (intro w hSw; (try dsimp only at hSw); first | (go_simp; done) | (go_simp; with_reducible rfl))
        simp only [Act.put, List.getElem_toArray, List.getElem_cons_zero, List.getElem_cons_succ, List.setIfInBounds_toArray, List.set_cons_zero, List.set_cons_succ]
        refine wpAnyH_take (i := 1) (v := ?_) rfl (by kernel_rfl) (by kernel_rfl) (by kernel_rfl) (fun _ _ _ h => h) (Or.inl ⟨by rfl, ?_⟩) (by assumption) ?_
        rotate_left
        · (intro w hSw; (try dsimp only at hSw); first | (go_simp; done) | (go_simp; with_reducible rfl))
        simp only [Act.put, List.getElem_toArray, List.getElem_cons_zero, List.getElem_cons_succ, List.setIfInBounds_toArray, List.set_cons_zero, List.set_cons_succ]
        refine wpAnyH_take (i := 2) (v := undef) rfl (by kernel_rfl) (by kernel_rfl) (by kernel_rfl) (fun _ _ _ h => h) (Or.inr ⟨by rfl, rfl⟩) (by assumption) ?_
        simp only [Act.put, List.getElem_toArray, List.getElem_cons_zero, List.getElem_cons_succ, List.setIfInBounds_toArray, List.set_cons_zero, List.set_cons_succ]
        refine wpAnyH_take (i := 3) (v := undef) rfl (by kernel_rfl) (by kernel_rfl) (by kernel_rfl) (fun _ _ _ h => h) (Or.inr ⟨by rfl, rfl⟩) (by assumption) ?_
        simp only [Act.put, List.getElem_toArray, List.getElem_cons_zero, List.getElem_cons_succ, List.setIfInBounds_toArray, List.set_cons_zero, List.set_cons_succ]
        refine wpAnyH_take (i := 4) (v := ?_) rfl (by kernel_rfl) (by kernel_rfl) (by kernel_rfl) (fun _ _ _ h => h) (Or.inl ⟨by rfl, ?_⟩) (by assumption) ?_
        rotate_left
        · (intro w hSw; (try dsimp only at hSw); first | (go_simp; done) | (go_simp; with_reducible rfl))
        simp only [Act.put, List.getElem_toArray, List.getElem_cons_zero, List.getElem_cons_succ, List.setIfInBounds_toArray, List.set_cons_zero, List.set_cons_succ]
        refine wpAnyH_take (i := 5) (v := ?_) rfl (by kernel_rfl) (by kernel_rfl) (by kernel_rfl) (fun _ _ _ h => h) (Or.inl ⟨by rfl, ?_⟩) (by assumption) ?_
        rotate_left
        · (intro w hSw; (try dsimp only at hSw); first | (go_simp; done) | (go_simp; with_reducible rfl))
        simp only [Act.put, List.getElem_toArray, List.getElem_cons_zero, List.getElem_cons_succ, List.setIfInBounds_toArray, List.set_cons_zero, List.set_cons_succ]
        refine wpAnyH_take (i := 6) (v := undef) rfl (by kernel_rfl) (by kernel_rfl) (by kernel_rfl) (fun _ _ _ h => h) (Or.inr ⟨by rfl, rfl⟩) (by assumption) ?_
        simp only [Act.put, List.getElem_toArray, List.getElem_cons_zero, List.getElem_cons_succ, List.setIfInBounds_toArray, List.set_cons_zero, List.set_cons_succ]
        refine wpAnyH_take (i := 7) (v := undef) rfl (by kernel_rfl) (by kernel_rfl) (by kernel_rfl) (fun _ _ _ h => h) (Or.inr ⟨by rfl, rfl⟩) (by assumption) ?_
        simp only [Act.put, List.getElem_toArray, List.getElem_cons_zero, List.getElem_cons_succ, List.setIfInBounds_toArray, List.set_cons_zero, List.set_cons_succ]
        refine wpAnyH_take (i := 8) (v := undef) rfl (by kernel_rfl) (by kernel_rfl) (by kernel_rfl) (fun _ _ _ h => h) (Or.inr ⟨by rfl, rfl⟩) (by assumption) ?_
        simp only [Act.put, List.getElem_toArray, List.getElem_cons_zero, List.getElem_cons_succ, List.setIfInBounds_toArray, List.set_cons_zero, List.set_cons_succ]
        refine wpAnyH_take (i := 9) (v := undef) rfl (by kernel_rfl) (by kernel_rfl) (by kernel_rfl) (fun _ _ _ h => h) (Or.inr ⟨by rfl, rfl⟩) (by assumption) ?_
        simp only [Act.put, List.getElem_toArray, List.getElem_cons_zero, List.getElem_cons_succ, List.setIfInBounds_toArray, List.set_cons_zero, List.set_cons_succ]
        refine wpAnyH_take (i := 10) (v := undef) rfl (by kernel_rfl) (by kernel_rfl) (by kernel_rfl) (fun _ _ _ h => h) (Or.inr ⟨by rfl, rfl⟩) (by assumption) ?_
        simp only [Act.put, List.getElem_toArray, List.getElem_cons_zero, List.getElem_cons_succ, List.setIfInBounds_toArray, List.set_cons_zero, List.set_cons_succ]
        refine wpAnyH_take (i := 11) (v := undef) rfl (by kernel_rfl) (by kernel_rfl) (by kernel_rfl) (fun _ _ _ h => h) (Or.inr ⟨by rfl, rfl⟩) (by assumption) ?_
        simp only [Act.put, List.getElem_toArray, List.getElem_cons_zero, List.getElem_cons_succ, List.setIfInBounds_toArray, List.set_cons_zero, List.set_cons_succ]
        refine wpAnyH_take (i := 12) (v := undef) rfl (by kernel_rfl) (by kernel_rfl) (by kernel_rfl) (fun _ _ _ h => h) (Or.inr ⟨by rfl, rfl⟩) (by assumption) ?_
        simp only [Act.put, List.getElem_toArray, List.getElem_cons_zero, List.getElem_cons_succ, List.setIfInBounds_toArray, List.set_cons_zero, List.set_cons_succ]
        refine wpAnyH_take (i := 13) (v := undef) rfl (by kernel_rfl) (by kernel_rfl) (by kernel_rfl) (fun _ _ _ h => h) (Or.inr ⟨by rfl, rfl⟩) (by assumption) ?_
        simp only [Act.put, List.getElem_toArray, List.getElem_cons_zero, List.getElem_cons_succ, List.setIfInBounds_toArray, List.set_cons_zero, List.set_cons_succ]
        refine wpAnyH_take (i := 14) (v := undef) rfl (by kernel_rfl) (by kernel_rfl) (by kernel_rfl) (fun _ _ _ h => h) (Or.inr ⟨by rfl, rfl⟩) (by assumption) ?_
        simp only [Act.put, List.getElem_toArray, List.getElem_cons_zero, List.getElem_cons_succ, List.setIfInBounds_toArray, List.set_cons_zero, List.set_cons_succ]
        refine wpAnyH_take (i := 15) (v := undef) rfl (by kernel_rfl) (by kernel_rfl) (by kernel_rfl) (fun _ _ _ h => h) (Or.inr ⟨by rfl, rfl⟩) (by assumption) ?_
        simp only [Act.put, List.getElem_toArray, List.getElem_cons_zero, List.getElem_cons_succ, List.setIfInBounds_toArray, List.set_cons_zero, List.set_cons_succ]
        refine wpAnyH_take (i := 16) (v := undef) rfl (by kernel_rfl) (by kernel_rfl) (by kernel_rfl) (fun _ _ _ h => h) (Or.inr ⟨by rfl, rfl⟩) (by assumption) ?_
        simp only [Act.put, List.getElem_toArray, List.getElem_cons_zero, List.getElem_cons_succ, List.setIfInBounds_toArray, List.set_cons_zero, List.set_cons_succ]
        refine wpAnyH_take (i := 17) (v := undef) rfl (by kernel_rfl) (by kernel_rfl) (by kernel_rfl) (fun _ _ _ h => h) (Or.inr ⟨by rfl, rfl⟩) (by assumption) ?_
        simp only [Act.put, List.getElem_toArray, List.getElem_cons_zero, List.getElem_cons_succ, List.setIfInBounds_toArray, List.set_cons_zero, List.set_cons_succ]
        refine wpAnyH_take (i := 18) (v := undef) rfl (by kernel_rfl) (by kernel_rfl) (by kernel_rfl) (fun _ _ _ h => h) (Or.inr ⟨by rfl, rfl⟩) (by assumption) ?_
        simp only [Act.put, List.getElem_toArray, List.getElem_cons_zero, List.getElem_cons_succ, List.setIfInBounds_toArray, List.set_cons_zero, List.set_cons_succ]
        refine wpAnyH_take (i := 19) (v := undef) rfl (by kernel_rfl) (by kernel_rfl) (by kernel_rfl) (fun _ _ _ h => h) (Or.inr ⟨by rfl, rfl⟩) (by assumption) ?_
        simp only [Act.put, List.getElem_toArray, List.getElem_cons_zero, List.getElem_cons_succ, List.setIfInBounds_toArray, List.set_cons_zero, List.set_cons_succ]
        refine wpAnyH_take (i := 20) (v := ?_) rfl (by kernel_rfl) (by kernel_rfl) (by kernel_rfl) (fun _ _ _ h => h) (Or.inl ⟨by rfl, ?_⟩) (by assumption) ?_
        rotate_left
        · (intro w hSw; (try dsimp only at hSw); first | (go_simp; done) | (go_simp; with_reducible rfl))
        simp only [Act.put, List.getElem_toArray, List.getElem_cons_zero, List.getElem_cons_succ, List.setIfInBounds_toArray, List.set_cons_zero, List.set_cons_succ]
        refine wpAnyH_take (i := 21) (v := ?_) rfl (by kernel_rfl) (by kernel_rfl) (by kernel_rfl) (fun _ _ _ h => h) (Or.inl ⟨by rfl, ?_⟩) (by assumption) ?_
        rotate_left
        · (intro w hSw; (try dsimp only at hSw); first | (go_simp; done) | (go_simp; with_reducible rfl))
        simp only [Act.put, List.getElem_toArray, List.getElem_cons_zero, List.getElem_cons_succ, List.setIfInBounds_toArray, List.set_cons_zero, List.set_cons_succ]
        refine wpAnyH_done (by kernel_rfl) ?_ _
        clear hHeld
        go_wp2_with fail
        have D12 := drewB4 w11
        refine ⟨⟨i + 1, _, _, _, _, rfl, by omega, by go_num, by rw [E2_.out]; rfl, rfl, BX11.out.below D12 BX11.out.lt, OA11.out.below D12, OB11.out.below D12, BR11.out.below D12 BR11.out.lt, up B11.out D12 B11.out.size⟩, by simp [intOf]; omega⟩
      · obtain rfl : i = gs.length := by omega
        have LB := lput_len h gs l2 false gs.length
        go_wp2_with fail
        refine ⟨⟨k + 1, _, _, _, rfl, by omega, by go_num, by rw [LS2.out], by rw [LS2.out], BX8.out, by rw [LS2.out]; exact OT8.out, by rw [LS2.out]; exact OG8.out, ?_, ?_, AK2.out, B8.out⟩, by simp [intOf]; omega⟩
        · have h2 : l2.1.length ≤ T.length + 1 := LLH.out.1
          rw [LS2.out]
          show (lput h gs l2 false gs.length).1.1.length ≤ k + 1
          rw [LB.1]
          omega
        · have h1 : (lput h gs l2 false gs.length).1.2.length ≤ l2.2.length + gs.length := LB.2
          have h2 : l2.2.length = G.length := congrArg List.length LLH.out.2
          rw [LS2.out]
          show (lput h gs l2 false gs.length).1.2.length ≤ 30 * (k + 1)
          omega
    · subst z1
      have d2 : decide (er = 0) = (er == 0) := rfl
      obtain rfl : ok0 = false := by rw [hok0]; simp only [d2, z2, Bool.true_and, Bool.false_and, Bool.and_false]
      clear hok0
      have RSS := Lib.hid (rset_any A5 c5 T5 C5 e5 G5 h u w5 OA5.out OB5.out (by omega) B5.out.size)
      go_wp2_with fail
      refine RSS.out.mono ?_
      rintro e w6 ⟨va, vb, rfl, oa, ob, hb6⟩
      obtain ⟨A6, c6, rfl, -⟩ := oa.open_
      obtain ⟨C6, e6, rfl, -⟩ := ob.open_
      have hbx := BX5.out.below hb6 BX5.out.lt
      have hbr := BR5.out.below hb6 BR5.out.lt
      obtain ⟨bx7, oa7, ob7, b7, f0, f1, z0, z1, far⟩ := finB (up B5.out hb6 B5.out.size) hbx HXB.out oa ob
      have BR7 := Lib.hid (far _ _ _ hbr (ne_of_ty hbr hbx (by decide)))
      have BX7 := Lib.hid bx7
      have hr2 := BR7.out.cell 2
      have OA7 := Lib.hid (show rk.Own E2 _ w.heap.size 71 _ l2.1 from by rw [HL2.out]; exact oa7)
      have OB7 := Lib.hid (show rk.Own E3 _ w.heap.size 69 _ l2.2 from by rw [HL2.out]; exact ob7)
      have B7 := Lib.hid b7
      clear oa ob hb6 hbx hbr bx7 oa7 ob7 b7 far RSS x0 x1 r0 r1 z2 d2
      go_upto_region 15 with fail
      generalize ((w6.setCell ⟨w.heap.size, 0, none⟩ (.slice A6 (setL T5 h u).length c6)).setCell ⟨w.heap.size, 1, none⟩ (.slice C6 G5.length e6)) = w7 at *
      clear f0 f1 z0 z1
      go_upto_region 15 with fail
      go_wp2_with fail
      go_loopw [4, 8, 72] (fun ok er ix wr => ∃ (i : Nat) (W : World) (va vb : Value) (erz : Int), W = wr ∧ i ≤ gs.length ∧ ix = .int .i64 i ∧ ok = .bool (lput h gs l2 false i).2 ∧ er = .int .i64 erz ∧ Blk wr w.heap.size 29 #[va, vb] ∧ rk.Own E2 wr w.heap.size 71 va (lput h gs l2 false i).1.1 ∧ rk.Own E3 wr w.heap.size 69 vb (lput h gs l2 false i).1.2 ∧ Blk wr rb 47 #[.int .i64 h, .int .i64 u, .slice Ar gs.length cr] ∧ Below w.heap.size w wr) (fun _ _ ix _ => gs.length - (intOf ix).toNat)
      case atStart => exact ⟨0, _, _, _, _, rfl, by omega, rfl, rfl, rfl, BX7.out, OA7.out, OB7.out, BR7.out, B7.out⟩
      case round =>
      clear BX7 OA7 OB7 BR7 B7
      obtain ⟨i, w8, va, vb, erz, rfl, hi, rfl, rfl, rfl, hbx, oT, oG, hbr, hb⟩ := hrel
      have BX8 := Lib.hid hbx
      have OT8 := Lib.hid oT
      have OG8 := Lib.hid oG
      have BR8 := Lib.hid hbr
      have B8 := Lib.hid hb
      obtain ⟨l8, l9⟩ := lput_len h gs l2 false i
      have LN8 := Lib.hid l8
      clear hbx oT oG hbr hb l8
      by_cases hil : i < gs.length
      · have LK := LG.out.below B8.out
        obtain ⟨bb, off, eA, e0, e1⟩ := lay2 LK hil
        have ed : gs.getD i (0, 0) = gs[i] := by simp [List.getD, hil]
        have E1_ := Lib.hid (show (lput h gs l2 false (i + 1)).1 = rputL (lput h gs l2 false i).1.1 (lput h gs l2 false i).1.2 h gs[i].1 gs[i].2 from by
          show rputL _ _ h (gs.getD i (0, 0)).1 (gs.getD i (0, 0)).2 = _
          rw [ed])
        have E2_ := Lib.hid (show (lput h gs l2 false (i + 1)).2 = ((lput h gs l2 false i).2 && decide (rputE (lput h gs l2 false i).1.1 (lput h gs l2 false i).1.2 h gs[i].1 gs[i].2 = 0) && (decide (i = 0) || decide ((gs.getD (i - 1) (0, 0)).1 < gs[i].1))) from by
          show (_ && decide (rputE _ _ h (gs.getD i (0, 0)).1 (gs.getD i (0, 0)).2 = 0) && (_ || decide (_ < (gs.getD i (0, 0)).1))) = _
          rw [ed])
        clear LK ed
        generalize gs[i] = d at *
        obtain ⟨t, p⟩ := d
        dsimp only at e0 e1
        have hm9 := made w8 (.cells #[.int .i64 t, .int .i64 p] 56)
        have BX9 := Lib.hid (BX8.out.below hm9 BX8.out.lt)
        have OT9 := Lib.hid (OT8.out.below hm9)
        have OG9 := Lib.hid (OG8.out.below hm9)
        have BR9 := Lib.hid (BR8.out.below hm9 BR8.out.lt)
        have B9 := Lib.hid (up B8.out hm9 B8.out.size)
        have BG9 := Lib.hid (Blk.new w8 56 #[.int .i64 t, .int .i64 p])
        clear hm9 BX8 OT8 OG8 BR8 B8
        generalize hst : (lput h gs l2 false i).2 = okb at *
        generalize (lput h gs l2 false i).1.1 = T8 at *
        generalize (lput h gs l2 false i).1.2 = G8 at *
        obtain ⟨Ax, cx, rfl, -⟩ := OT9.out.open_
        obtain ⟨Ay, cy, rfl, -⟩ := OG9.out.open_
        subst eA
        go_upto_region 18 with fail
        generalize w8.alloc (.cells #[.int .i64 t, .int .i64 p] 56) = w9 at *
        generalize w8.heap.size = gb at *
        clear e0 e1
        have x0 := BX9.out.cell 0
        have x1 := BX9.out.cell 1
        have r0 := BR9.out.cell 0
        have g0 := BG9.out.cell 0
        have g1 := BG9.out.cell 1
        have ln8 : T8.length ≤ T.length + 1 := by rw [LN8.out]; exact LLH.out.1
        have ln9 : l2.2.length = G.length := congrArg List.length LLH.out.2
        have PU := Lib.hid (rput_any Ax cx T8 Ay cy G8 h t p w9 OT9.out OG9.out (by omega) (by omega) B9.out.size)
        clear ln8 ln9
        go_wp2_with fail
        refine PU.out.mono ?_
        rintro e w10 ⟨va, vb, rfl, oa, ob, hb10⟩
        obtain ⟨A4, c4, rfl, -⟩ := oa.open_
        obtain ⟨C4, e4, rfl, -⟩ := ob.open_
        have hbx := BX9.out.below hb10 BX9.out.lt
        have hbg := BG9.out.below hb10 BG9.out.lt
        have hbr := BR9.out.below hb10 BR9.out.lt
        obtain ⟨bx11, oa11, ob11, b11, f0, f1, z0, z1, far⟩ := finB (up B9.out hb10 B9.out.size) hbx HXB.out oa ob
        have BG11 := Lib.hid (far _ _ _ hbg (ne_of_ty hbg hbx (by decide)))
        have BR11 := Lib.hid (far _ _ _ hbr (ne_of_ty hbr hbx (by decide)))
        have BX11 := Lib.hid bx11
        have OA11 := Lib.hid (show rk.Own E2 _ w.heap.size 71 _ (lput h gs l2 false (i + 1)).1.1 from by rw [E1_.out]; exact oa11)
        have OB11 := Lib.hid (show rk.Own E3 _ w.heap.size 69 _ (lput h gs l2 false (i + 1)).1.2 from by rw [E1_.out]; exact ob11)
        have B11 := Lib.hid b11
        clear oa ob hb10 hbx hbg hbr bx11 oa11 ob11 b11 far PU x0 x1 r0 g0 g1 OT9 OG9 BX9 BR9 BG9 B9
        go_upto_region 19 with fail
        generalize ((w10.setCell ⟨w.heap.size, 0, none⟩ (.slice A4 (rputL T8 G8 h t p).1.length c4)).setCell ⟨w.heap.size, 1, none⟩ (.slice C4 (rputL T8 G8 h t p).2.length e4)) = w11 at *
        clear f0 f1 z0 z1
        rw [lput_false] at hst
        subst hst
        have SS := Lib.hid (show w11.drew.cell? ⟨gb, 0, none⟩ = some (.int .i64 t) ∧ w11.drew.cell? ⟨rb, 2, none⟩ = some (.slice (some ⟨bb, off, none⟩) gs.length cr) from ⟨(BG11.out.below (drewB4 w11) BG11.out.lt).cell 0, (BR11.out.below (drewB4 w11) BR11.out.lt).cell 2⟩)
        refine wp_region_held_drew (S := fun W => W.cell? ⟨gb, 0, none⟩ = some (.int .i64 t) ∧ W.cell? ⟨rb, 2, none⟩ = some (.slice (some ⟨bb, off, none⟩) gs.length cr)) (by kernel_rfl) SS.out (fun hHeld => ?_)
        refine wpAnyH_take (i := 0) (v := ?_) rfl (by kernel_rfl) (by kernel_rfl) (by kernel_rfl) (fun _ _ _ h => h) (Or.inl ⟨by rfl, ?_⟩) (by assumption) ?_
        rotate_left
        · (intro w hSw; (try dsimp only at hSw); first | (go_simp; done) | (go_simp; with_reducible rfl))
        simp only [Act.put, List.getElem_toArray, List.getElem_cons_zero, List.getElem_cons_succ, List.setIfInBounds_toArray, List.set_cons_zero, List.set_cons_succ]
        refine wpAnyH_take (i := 1) (v := ?_) rfl (by kernel_rfl) (by kernel_rfl) (by kernel_rfl) (fun _ _ _ h => h) (Or.inl ⟨by rfl, ?_⟩) (by assumption) ?_
        rotate_left
        · (intro w hSw; (try dsimp only at hSw); first | (go_simp; done) | (go_simp; with_reducible rfl))
        simp only [Act.put, List.getElem_toArray, List.getElem_cons_zero, List.getElem_cons_succ, List.setIfInBounds_toArray, List.set_cons_zero, List.set_cons_succ]
        refine wpAnyH_take (i := 2) (v := undef) rfl (by kernel_rfl) (by kernel_rfl) (by kernel_rfl) (fun _ _ _ h => h) (Or.inr ⟨by rfl, rfl⟩) (by assumption) ?_
        simp only [Act.put, List.getElem_toArray, List.getElem_cons_zero, List.getElem_cons_succ, List.setIfInBounds_toArray, List.set_cons_zero, List.set_cons_succ]
        refine wpAnyH_take (i := 3) (v := undef) rfl (by kernel_rfl) (by kernel_rfl) (by kernel_rfl) (fun _ _ _ h => h) (Or.inr ⟨by rfl, rfl⟩) (by assumption) ?_
        simp only [Act.put, List.getElem_toArray, List.getElem_cons_zero, List.getElem_cons_succ, List.setIfInBounds_toArray, List.set_cons_zero, List.set_cons_succ]
        refine wpAnyH_take (i := 4) (v := ?_) rfl (by kernel_rfl) (by kernel_rfl) (by kernel_rfl) (fun _ _ _ h => h) (Or.inl ⟨by rfl, ?_⟩) (by assumption) ?_
        rotate_left
        · (intro w hSw; (try dsimp only at hSw); first | (go_simp; done) | (go_simp; with_reducible rfl))
        simp only [Act.put, List.getElem_toArray, List.getElem_cons_zero, List.getElem_cons_succ, List.setIfInBounds_toArray, List.set_cons_zero, List.set_cons_succ]
        refine wpAnyH_take (i := 5) (v := ?_) rfl (by kernel_rfl) (by kernel_rfl) (by kernel_rfl) (fun _ _ _ h => h) (Or.inl ⟨by rfl, ?_⟩) (by assumption) ?_
        rotate_left
        · (intro w hSw; (try dsimp only at hSw); first | (go_simp; done) | (go_simp; with_reducible rfl))
        simp only [Act.put, List.getElem_toArray, List.getElem_cons_zero, List.getElem_cons_succ, List.setIfInBounds_toArray, List.set_cons_zero, List.set_cons_succ]
        refine wpAnyH_take (i := 6) (v := undef) rfl (by kernel_rfl) (by kernel_rfl) (by kernel_rfl) (fun _ _ _ h => h) (Or.inr ⟨by rfl, rfl⟩) (by assumption) ?_
        simp only [Act.put, List.getElem_toArray, List.getElem_cons_zero, List.getElem_cons_succ, List.setIfInBounds_toArray, List.set_cons_zero, List.set_cons_succ]
        refine wpAnyH_take (i := 7) (v := undef) rfl (by kernel_rfl) (by kernel_rfl) (by kernel_rfl) (fun _ _ _ h => h) (Or.inr ⟨by rfl, rfl⟩) (by assumption) ?_
        simp only [Act.put, List.getElem_toArray, List.getElem_cons_zero, List.getElem_cons_succ, List.setIfInBounds_toArray, List.set_cons_zero, List.set_cons_succ]
        refine wpAnyH_take (i := 8) (v := undef) rfl (by kernel_rfl) (by kernel_rfl) (by kernel_rfl) (fun _ _ _ h => h) (Or.inr ⟨by rfl, rfl⟩) (by assumption) ?_
        simp only [Act.put, List.getElem_toArray, List.getElem_cons_zero, List.getElem_cons_succ, List.setIfInBounds_toArray, List.set_cons_zero, List.set_cons_succ]
        refine wpAnyH_take (i := 9) (v := undef) rfl (by kernel_rfl) (by kernel_rfl) (by kernel_rfl) (fun _ _ _ h => h) (Or.inr ⟨by rfl, rfl⟩) (by assumption) ?_
        simp only [Act.put, List.getElem_toArray, List.getElem_cons_zero, List.getElem_cons_succ, List.setIfInBounds_toArray, List.set_cons_zero, List.set_cons_succ]
        refine wpAnyH_take (i := 10) (v := undef) rfl (by kernel_rfl) (by kernel_rfl) (by kernel_rfl) (fun _ _ _ h => h) (Or.inr ⟨by rfl, rfl⟩) (by assumption) ?_
        simp only [Act.put, List.getElem_toArray, List.getElem_cons_zero, List.getElem_cons_succ, List.setIfInBounds_toArray, List.set_cons_zero, List.set_cons_succ]
        refine wpAnyH_take (i := 11) (v := undef) rfl (by kernel_rfl) (by kernel_rfl) (by kernel_rfl) (fun _ _ _ h => h) (Or.inr ⟨by rfl, rfl⟩) (by assumption) ?_
        simp only [Act.put, List.getElem_toArray, List.getElem_cons_zero, List.getElem_cons_succ, List.setIfInBounds_toArray, List.set_cons_zero, List.set_cons_succ]
        refine wpAnyH_take (i := 12) (v := undef) rfl (by kernel_rfl) (by kernel_rfl) (by kernel_rfl) (fun _ _ _ h => h) (Or.inr ⟨by rfl, rfl⟩) (by assumption) ?_
        simp only [Act.put, List.getElem_toArray, List.getElem_cons_zero, List.getElem_cons_succ, List.setIfInBounds_toArray, List.set_cons_zero, List.set_cons_succ]
        refine wpAnyH_take (i := 13) (v := undef) rfl (by kernel_rfl) (by kernel_rfl) (by kernel_rfl) (fun _ _ _ h => h) (Or.inr ⟨by rfl, rfl⟩) (by assumption) ?_
        simp only [Act.put, List.getElem_toArray, List.getElem_cons_zero, List.getElem_cons_succ, List.setIfInBounds_toArray, List.set_cons_zero, List.set_cons_succ]
        refine wpAnyH_take (i := 14) (v := undef) rfl (by kernel_rfl) (by kernel_rfl) (by kernel_rfl) (fun _ _ _ h => h) (Or.inr ⟨by rfl, rfl⟩) (by assumption) ?_
        simp only [Act.put, List.getElem_toArray, List.getElem_cons_zero, List.getElem_cons_succ, List.setIfInBounds_toArray, List.set_cons_zero, List.set_cons_succ]
        refine wpAnyH_take (i := 15) (v := undef) rfl (by kernel_rfl) (by kernel_rfl) (by kernel_rfl) (fun _ _ _ h => h) (Or.inr ⟨by rfl, rfl⟩) (by assumption) ?_
        simp only [Act.put, List.getElem_toArray, List.getElem_cons_zero, List.getElem_cons_succ, List.setIfInBounds_toArray, List.set_cons_zero, List.set_cons_succ]
        refine wpAnyH_take (i := 16) (v := undef) rfl (by kernel_rfl) (by kernel_rfl) (by kernel_rfl) (fun _ _ _ h => h) (Or.inr ⟨by rfl, rfl⟩) (by assumption) ?_
        simp only [Act.put, List.getElem_toArray, List.getElem_cons_zero, List.getElem_cons_succ, List.setIfInBounds_toArray, List.set_cons_zero, List.set_cons_succ]
        refine wpAnyH_take (i := 17) (v := undef) rfl (by kernel_rfl) (by kernel_rfl) (by kernel_rfl) (fun _ _ _ h => h) (Or.inr ⟨by rfl, rfl⟩) (by assumption) ?_
        simp only [Act.put, List.getElem_toArray, List.getElem_cons_zero, List.getElem_cons_succ, List.setIfInBounds_toArray, List.set_cons_zero, List.set_cons_succ]
        refine wpAnyH_take (i := 18) (v := undef) rfl (by kernel_rfl) (by kernel_rfl) (by kernel_rfl) (fun _ _ _ h => h) (Or.inr ⟨by rfl, rfl⟩) (by assumption) ?_
        simp only [Act.put, List.getElem_toArray, List.getElem_cons_zero, List.getElem_cons_succ, List.setIfInBounds_toArray, List.set_cons_zero, List.set_cons_succ]
        refine wpAnyH_take (i := 19) (v := undef) rfl (by kernel_rfl) (by kernel_rfl) (by kernel_rfl) (fun _ _ _ h => h) (Or.inr ⟨by rfl, rfl⟩) (by assumption) ?_
        simp only [Act.put, List.getElem_toArray, List.getElem_cons_zero, List.getElem_cons_succ, List.setIfInBounds_toArray, List.set_cons_zero, List.set_cons_succ]
        refine wpAnyH_take (i := 20) (v := ?_) rfl (by kernel_rfl) (by kernel_rfl) (by kernel_rfl) (fun _ _ _ h => h) (Or.inl ⟨by rfl, ?_⟩) (by assumption) ?_
        rotate_left
        · (intro w hSw; (try dsimp only at hSw); first | (go_simp; done) | (go_simp; with_reducible rfl))
        simp only [Act.put, List.getElem_toArray, List.getElem_cons_zero, List.getElem_cons_succ, List.setIfInBounds_toArray, List.set_cons_zero, List.set_cons_succ]
        refine wpAnyH_take (i := 21) (v := ?_) rfl (by kernel_rfl) (by kernel_rfl) (by kernel_rfl) (fun _ _ _ h => h) (Or.inl ⟨by rfl, ?_⟩) (by assumption) ?_
        rotate_left
        · (intro w hSw; (try dsimp only at hSw); first | (go_simp; done) | (go_simp; with_reducible rfl))
        simp only [Act.put, List.getElem_toArray, List.getElem_cons_zero, List.getElem_cons_succ, List.setIfInBounds_toArray, List.set_cons_zero, List.set_cons_succ]
        refine wpAnyH_done (by kernel_rfl) ?_ _
        clear hHeld
        go_wp2_with fail
        have D12 := drewB4 w11
        refine ⟨⟨i + 1, _, _, _, _, rfl, by omega, by go_num, by rw [E2_.out]; rfl, rfl, BX11.out.below D12 BX11.out.lt, OA11.out.below D12, OB11.out.below D12, BR11.out.below D12 BR11.out.lt, up B11.out D12 B11.out.size⟩, by simp [intOf]; omega⟩
      · obtain rfl : i = gs.length := by omega
        have LB := lput_len h gs l2 false gs.length
        go_wp2_with fail
        refine ⟨⟨k + 1, _, _, _, rfl, by omega, by go_num, by rw [LS2.out], by rw [LS2.out], BX8.out, by rw [LS2.out]; exact OT8.out, by rw [LS2.out]; exact OG8.out, ?_, ?_, AK2.out, B8.out⟩, by simp [intOf]; omega⟩
        · have h2 : l2.1.length ≤ T.length + 1 := LLH.out.1
          rw [LS2.out]
          show (lput h gs l2 false gs.length).1.1.length ≤ k + 1
          rw [LB.1]
          omega
        · have h1 : (lput h gs l2 false gs.length).1.2.length ≤ l2.2.length + gs.length := LB.2
          have h2 : l2.2.length = G.length := congrArg List.length LLH.out.2
          rw [LS2.out]
          show (lput h gs l2 false gs.length).1.2.length ≤ 30 * (k + 1)
          omega
    · subst z1
      have d2 : decide (er = 0) = (er == 0) := rfl
      obtain rfl : ok0 = false := by rw [hok0]; simp only [d2, z2, z3, Bool.true_and, Bool.false_and, Bool.and_false]
      clear hok0
      have z3p : decide (h > la) = false := z3
      have RSS := Lib.hid (rset_any A5 c5 T5 C5 e5 G5 h u w5 OA5.out OB5.out (by omega) B5.out.size)
      go_wp2_with fail
      refine RSS.out.mono ?_
      rintro e w6 ⟨va, vb, rfl, oa, ob, hb6⟩
      obtain ⟨A6, c6, rfl, -⟩ := oa.open_
      obtain ⟨C6, e6, rfl, -⟩ := ob.open_
      have hbx := BX5.out.below hb6 BX5.out.lt
      have hbr := BR5.out.below hb6 BR5.out.lt
      obtain ⟨bx7, oa7, ob7, b7, f0, f1, z0, z1, far⟩ := finB (up B5.out hb6 B5.out.size) hbx HXB.out oa ob
      have BR7 := Lib.hid (far _ _ _ hbr (ne_of_ty hbr hbx (by decide)))
      have BX7 := Lib.hid bx7
      have hr2 := BR7.out.cell 2
      have OA7 := Lib.hid (show rk.Own E2 _ w.heap.size 71 _ l2.1 from by rw [HL2.out]; exact oa7)
      have OB7 := Lib.hid (show rk.Own E3 _ w.heap.size 69 _ l2.2 from by rw [HL2.out]; exact ob7)
      have B7 := Lib.hid b7
      clear oa ob hb6 hbx hbr bx7 oa7 ob7 b7 far RSS x0 x1 r0 r1 z3p z2 z3 d2
      go_upto_region 15 with fail
      generalize ((w6.setCell ⟨w.heap.size, 0, none⟩ (.slice A6 (setL T5 h u).length c6)).setCell ⟨w.heap.size, 1, none⟩ (.slice C6 G5.length e6)) = w7 at *
      clear f0 f1 z0 z1
      go_upto_region 15 with fail
      go_wp2_with fail
      go_loopw [4, 8, 72] (fun ok er ix wr => ∃ (i : Nat) (W : World) (va vb : Value) (erz : Int), W = wr ∧ i ≤ gs.length ∧ ix = .int .i64 i ∧ ok = .bool (lput h gs l2 false i).2 ∧ er = .int .i64 erz ∧ Blk wr w.heap.size 29 #[va, vb] ∧ rk.Own E2 wr w.heap.size 71 va (lput h gs l2 false i).1.1 ∧ rk.Own E3 wr w.heap.size 69 vb (lput h gs l2 false i).1.2 ∧ Blk wr rb 47 #[.int .i64 h, .int .i64 u, .slice Ar gs.length cr] ∧ Below w.heap.size w wr) (fun _ _ ix _ => gs.length - (intOf ix).toNat)
      case atStart => exact ⟨0, _, _, _, _, rfl, by omega, rfl, rfl, rfl, BX7.out, OA7.out, OB7.out, BR7.out, B7.out⟩
      case round =>
      clear BX7 OA7 OB7 BR7 B7
      obtain ⟨i, w8, va, vb, erz, rfl, hi, rfl, rfl, rfl, hbx, oT, oG, hbr, hb⟩ := hrel
      have BX8 := Lib.hid hbx
      have OT8 := Lib.hid oT
      have OG8 := Lib.hid oG
      have BR8 := Lib.hid hbr
      have B8 := Lib.hid hb
      obtain ⟨l8, l9⟩ := lput_len h gs l2 false i
      have LN8 := Lib.hid l8
      clear hbx oT oG hbr hb l8
      by_cases hil : i < gs.length
      · have LK := LG.out.below B8.out
        obtain ⟨bb, off, eA, e0, e1⟩ := lay2 LK hil
        have ed : gs.getD i (0, 0) = gs[i] := by simp [List.getD, hil]
        have E1_ := Lib.hid (show (lput h gs l2 false (i + 1)).1 = rputL (lput h gs l2 false i).1.1 (lput h gs l2 false i).1.2 h gs[i].1 gs[i].2 from by
          show rputL _ _ h (gs.getD i (0, 0)).1 (gs.getD i (0, 0)).2 = _
          rw [ed])
        have E2_ := Lib.hid (show (lput h gs l2 false (i + 1)).2 = ((lput h gs l2 false i).2 && decide (rputE (lput h gs l2 false i).1.1 (lput h gs l2 false i).1.2 h gs[i].1 gs[i].2 = 0) && (decide (i = 0) || decide ((gs.getD (i - 1) (0, 0)).1 < gs[i].1))) from by
          show (_ && decide (rputE _ _ h (gs.getD i (0, 0)).1 (gs.getD i (0, 0)).2 = 0) && (_ || decide (_ < (gs.getD i (0, 0)).1))) = _
          rw [ed])
        clear LK ed
        generalize gs[i] = d at *
        obtain ⟨t, p⟩ := d
        dsimp only at e0 e1
        have hm9 := made w8 (.cells #[.int .i64 t, .int .i64 p] 56)
        have BX9 := Lib.hid (BX8.out.below hm9 BX8.out.lt)
        have OT9 := Lib.hid (OT8.out.below hm9)
        have OG9 := Lib.hid (OG8.out.below hm9)
        have BR9 := Lib.hid (BR8.out.below hm9 BR8.out.lt)
        have B9 := Lib.hid (up B8.out hm9 B8.out.size)
        have BG9 := Lib.hid (Blk.new w8 56 #[.int .i64 t, .int .i64 p])
        clear hm9 BX8 OT8 OG8 BR8 B8
        generalize hst : (lput h gs l2 false i).2 = okb at *
        generalize (lput h gs l2 false i).1.1 = T8 at *
        generalize (lput h gs l2 false i).1.2 = G8 at *
        obtain ⟨Ax, cx, rfl, -⟩ := OT9.out.open_
        obtain ⟨Ay, cy, rfl, -⟩ := OG9.out.open_
        subst eA
        go_upto_region 18 with fail
        generalize w8.alloc (.cells #[.int .i64 t, .int .i64 p] 56) = w9 at *
        generalize w8.heap.size = gb at *
        clear e0 e1
        have x0 := BX9.out.cell 0
        have x1 := BX9.out.cell 1
        have r0 := BR9.out.cell 0
        have g0 := BG9.out.cell 0
        have g1 := BG9.out.cell 1
        have ln8 : T8.length ≤ T.length + 1 := by rw [LN8.out]; exact LLH.out.1
        have ln9 : l2.2.length = G.length := congrArg List.length LLH.out.2
        have PU := Lib.hid (rput_any Ax cx T8 Ay cy G8 h t p w9 OT9.out OG9.out (by omega) (by omega) B9.out.size)
        clear ln8 ln9
        go_wp2_with fail
        refine PU.out.mono ?_
        rintro e w10 ⟨va, vb, rfl, oa, ob, hb10⟩
        obtain ⟨A4, c4, rfl, -⟩ := oa.open_
        obtain ⟨C4, e4, rfl, -⟩ := ob.open_
        have hbx := BX9.out.below hb10 BX9.out.lt
        have hbg := BG9.out.below hb10 BG9.out.lt
        have hbr := BR9.out.below hb10 BR9.out.lt
        obtain ⟨bx11, oa11, ob11, b11, f0, f1, z0, z1, far⟩ := finB (up B9.out hb10 B9.out.size) hbx HXB.out oa ob
        have BG11 := Lib.hid (far _ _ _ hbg (ne_of_ty hbg hbx (by decide)))
        have BR11 := Lib.hid (far _ _ _ hbr (ne_of_ty hbr hbx (by decide)))
        have BX11 := Lib.hid bx11
        have OA11 := Lib.hid (show rk.Own E2 _ w.heap.size 71 _ (lput h gs l2 false (i + 1)).1.1 from by rw [E1_.out]; exact oa11)
        have OB11 := Lib.hid (show rk.Own E3 _ w.heap.size 69 _ (lput h gs l2 false (i + 1)).1.2 from by rw [E1_.out]; exact ob11)
        have B11 := Lib.hid b11
        clear oa ob hb10 hbx hbg hbr bx11 oa11 ob11 b11 far PU x0 x1 r0 g0 g1 OT9 OG9 BX9 BR9 BG9 B9
        go_upto_region 19 with fail
        generalize ((w10.setCell ⟨w.heap.size, 0, none⟩ (.slice A4 (rputL T8 G8 h t p).1.length c4)).setCell ⟨w.heap.size, 1, none⟩ (.slice C4 (rputL T8 G8 h t p).2.length e4)) = w11 at *
        clear f0 f1 z0 z1
        rw [lput_false] at hst
        subst hst
        have SS := Lib.hid (show w11.drew.cell? ⟨gb, 0, none⟩ = some (.int .i64 t) ∧ w11.drew.cell? ⟨rb, 2, none⟩ = some (.slice (some ⟨bb, off, none⟩) gs.length cr) from ⟨(BG11.out.below (drewB4 w11) BG11.out.lt).cell 0, (BR11.out.below (drewB4 w11) BR11.out.lt).cell 2⟩)
        refine wp_region_held_drew (S := fun W => W.cell? ⟨gb, 0, none⟩ = some (.int .i64 t) ∧ W.cell? ⟨rb, 2, none⟩ = some (.slice (some ⟨bb, off, none⟩) gs.length cr)) (by kernel_rfl) SS.out (fun hHeld => ?_)
        refine wpAnyH_take (i := 0) (v := ?_) rfl (by kernel_rfl) (by kernel_rfl) (by kernel_rfl) (fun _ _ _ h => h) (Or.inl ⟨by rfl, ?_⟩) (by assumption) ?_
        rotate_left
        · (intro w hSw; (try dsimp only at hSw); first | (go_simp; done) | (go_simp; with_reducible rfl))
        simp only [Act.put, List.getElem_toArray, List.getElem_cons_zero, List.getElem_cons_succ, List.setIfInBounds_toArray, List.set_cons_zero, List.set_cons_succ]
        refine wpAnyH_take (i := 1) (v := ?_) rfl (by kernel_rfl) (by kernel_rfl) (by kernel_rfl) (fun _ _ _ h => h) (Or.inl ⟨by rfl, ?_⟩) (by assumption) ?_
        rotate_left
        · (intro w hSw; (try dsimp only at hSw); first | (go_simp; done) | (go_simp; with_reducible rfl))
        simp only [Act.put, List.getElem_toArray, List.getElem_cons_zero, List.getElem_cons_succ, List.setIfInBounds_toArray, List.set_cons_zero, List.set_cons_succ]
        refine wpAnyH_take (i := 2) (v := undef) rfl (by kernel_rfl) (by kernel_rfl) (by kernel_rfl) (fun _ _ _ h => h) (Or.inr ⟨by rfl, rfl⟩) (by assumption) ?_
        simp only [Act.put, List.getElem_toArray, List.getElem_cons_zero, List.getElem_cons_succ, List.setIfInBounds_toArray, List.set_cons_zero, List.set_cons_succ]
        refine wpAnyH_take (i := 3) (v := undef) rfl (by kernel_rfl) (by kernel_rfl) (by kernel_rfl) (fun _ _ _ h => h) (Or.inr ⟨by rfl, rfl⟩) (by assumption) ?_
        simp only [Act.put, List.getElem_toArray, List.getElem_cons_zero, List.getElem_cons_succ, List.setIfInBounds_toArray, List.set_cons_zero, List.set_cons_succ]
        refine wpAnyH_take (i := 4) (v := ?_) rfl (by kernel_rfl) (by kernel_rfl) (by kernel_rfl) (fun _ _ _ h => h) (Or.inl ⟨by rfl, ?_⟩) (by assumption) ?_
        rotate_left
        · (intro w hSw; (try dsimp only at hSw); first | (go_simp; done) | (go_simp; with_reducible rfl))
        simp only [Act.put, List.getElem_toArray, List.getElem_cons_zero, List.getElem_cons_succ, List.setIfInBounds_toArray, List.set_cons_zero, List.set_cons_succ]
        refine wpAnyH_take (i := 5) (v := ?_) rfl (by kernel_rfl) (by kernel_rfl) (by kernel_rfl) (fun _ _ _ h => h) (Or.inl ⟨by rfl, ?_⟩) (by assumption) ?_
        rotate_left
        · (intro w hSw; (try dsimp only at hSw); first | (go_simp; done) | (go_simp; with_reducible rfl))
        simp only [Act.put, List.getElem_toArray, List.getElem_cons_zero, List.getElem_cons_succ, List.setIfInBounds_toArray, List.set_cons_zero, List.set_cons_succ]
        refine wpAnyH_take (i := 6) (v := undef) rfl (by kernel_rfl) (by kernel_rfl) (by kernel_rfl) (fun _ _ _ h => h) (Or.inr ⟨by rfl, rfl⟩) (by assumption) ?_
        simp only [Act.put, List.getElem_toArray, List.getElem_cons_zero, List.getElem_cons_succ, List.setIfInBounds_toArray, List.set_cons_zero, List.set_cons_succ]
        refine wpAnyH_take (i := 7) (v := undef) rfl (by kernel_rfl) (by kernel_rfl) (by kernel_rfl) (fun _ _ _ h => h) (Or.inr ⟨by rfl, rfl⟩) (by assumption) ?_
        simp only [Act.put, List.getElem_toArray, List.getElem_cons_zero, List.getElem_cons_succ, List.setIfInBounds_toArray, List.set_cons_zero, List.set_cons_succ]
        refine wpAnyH_take (i := 8) (v := undef) rfl (by kernel_rfl) (by kernel_rfl) (by kernel_rfl) (fun _ _ _ h => h) (Or.inr ⟨by rfl, rfl⟩) (by assumption) ?_
        simp only [Act.put, List.getElem_toArray, List.getElem_cons_zero, List.getElem_cons_succ, List.setIfInBounds_toArray, List.set_cons_zero, List.set_cons_succ]
        refine wpAnyH_take (i := 9) (v := undef) rfl (by kernel_rfl) (by kernel_rfl) (by kernel_rfl) (fun _ _ _ h => h) (Or.inr ⟨by rfl, rfl⟩) (by assumption) ?_
        simp only [Act.put, List.getElem_toArray, List.getElem_cons_zero, List.getElem_cons_succ, List.setIfInBounds_toArray, List.set_cons_zero, List.set_cons_succ]
        refine wpAnyH_take (i := 10) (v := undef) rfl (by kernel_rfl) (by kernel_rfl) (by kernel_rfl) (fun _ _ _ h => h) (Or.inr ⟨by rfl, rfl⟩) (by assumption) ?_
        simp only [Act.put, List.getElem_toArray, List.getElem_cons_zero, List.getElem_cons_succ, List.setIfInBounds_toArray, List.set_cons_zero, List.set_cons_succ]
        refine wpAnyH_take (i := 11) (v := undef) rfl (by kernel_rfl) (by kernel_rfl) (by kernel_rfl) (fun _ _ _ h => h) (Or.inr ⟨by rfl, rfl⟩) (by assumption) ?_
        simp only [Act.put, List.getElem_toArray, List.getElem_cons_zero, List.getElem_cons_succ, List.setIfInBounds_toArray, List.set_cons_zero, List.set_cons_succ]
        refine wpAnyH_take (i := 12) (v := undef) rfl (by kernel_rfl) (by kernel_rfl) (by kernel_rfl) (fun _ _ _ h => h) (Or.inr ⟨by rfl, rfl⟩) (by assumption) ?_
        simp only [Act.put, List.getElem_toArray, List.getElem_cons_zero, List.getElem_cons_succ, List.setIfInBounds_toArray, List.set_cons_zero, List.set_cons_succ]
        refine wpAnyH_take (i := 13) (v := undef) rfl (by kernel_rfl) (by kernel_rfl) (by kernel_rfl) (fun _ _ _ h => h) (Or.inr ⟨by rfl, rfl⟩) (by assumption) ?_
        simp only [Act.put, List.getElem_toArray, List.getElem_cons_zero, List.getElem_cons_succ, List.setIfInBounds_toArray, List.set_cons_zero, List.set_cons_succ]
        refine wpAnyH_take (i := 14) (v := undef) rfl (by kernel_rfl) (by kernel_rfl) (by kernel_rfl) (fun _ _ _ h => h) (Or.inr ⟨by rfl, rfl⟩) (by assumption) ?_
        simp only [Act.put, List.getElem_toArray, List.getElem_cons_zero, List.getElem_cons_succ, List.setIfInBounds_toArray, List.set_cons_zero, List.set_cons_succ]
        refine wpAnyH_take (i := 15) (v := undef) rfl (by kernel_rfl) (by kernel_rfl) (by kernel_rfl) (fun _ _ _ h => h) (Or.inr ⟨by rfl, rfl⟩) (by assumption) ?_
        simp only [Act.put, List.getElem_toArray, List.getElem_cons_zero, List.getElem_cons_succ, List.setIfInBounds_toArray, List.set_cons_zero, List.set_cons_succ]
        refine wpAnyH_take (i := 16) (v := undef) rfl (by kernel_rfl) (by kernel_rfl) (by kernel_rfl) (fun _ _ _ h => h) (Or.inr ⟨by rfl, rfl⟩) (by assumption) ?_
        simp only [Act.put, List.getElem_toArray, List.getElem_cons_zero, List.getElem_cons_succ, List.setIfInBounds_toArray, List.set_cons_zero, List.set_cons_succ]
        refine wpAnyH_take (i := 17) (v := undef) rfl (by kernel_rfl) (by kernel_rfl) (by kernel_rfl) (fun _ _ _ h => h) (Or.inr ⟨by rfl, rfl⟩) (by assumption) ?_
        simp only [Act.put, List.getElem_toArray, List.getElem_cons_zero, List.getElem_cons_succ, List.setIfInBounds_toArray, List.set_cons_zero, List.set_cons_succ]
        refine wpAnyH_take (i := 18) (v := undef) rfl (by kernel_rfl) (by kernel_rfl) (by kernel_rfl) (fun _ _ _ h => h) (Or.inr ⟨by rfl, rfl⟩) (by assumption) ?_
        simp only [Act.put, List.getElem_toArray, List.getElem_cons_zero, List.getElem_cons_succ, List.setIfInBounds_toArray, List.set_cons_zero, List.set_cons_succ]
        refine wpAnyH_take (i := 19) (v := undef) rfl (by kernel_rfl) (by kernel_rfl) (by kernel_rfl) (fun _ _ _ h => h) (Or.inr ⟨by rfl, rfl⟩) (by assumption) ?_
        simp only [Act.put, List.getElem_toArray, List.getElem_cons_zero, List.getElem_cons_succ, List.setIfInBounds_toArray, List.set_cons_zero, List.set_cons_succ]
        refine wpAnyH_take (i := 20) (v := ?_) rfl (by kernel_rfl) (by kernel_rfl) (by kernel_rfl) (fun _ _ _ h => h) (Or.inl ⟨by rfl, ?_⟩) (by assumption) ?_
        rotate_left
        · (intro w hSw; (try dsimp only at hSw); first | (go_simp; done) | (go_simp; with_reducible rfl))
        simp only [Act.put, List.getElem_toArray, List.getElem_cons_zero, List.getElem_cons_succ, List.setIfInBounds_toArray, List.set_cons_zero, List.set_cons_succ]
        refine wpAnyH_take (i := 21) (v := ?_) rfl (by kernel_rfl) (by kernel_rfl) (by kernel_rfl) (fun _ _ _ h => h) (Or.inl ⟨by rfl, ?_⟩) (by assumption) ?_
        rotate_left
        · (intro w hSw; (try dsimp only at hSw); first | (go_simp; done) | (go_simp; with_reducible rfl))
        simp only [Act.put, List.getElem_toArray, List.getElem_cons_zero, List.getElem_cons_succ, List.setIfInBounds_toArray, List.set_cons_zero, List.set_cons_succ]
        refine wpAnyH_done (by kernel_rfl) ?_ _
        clear hHeld
        go_wp2_with fail
        have D12 := drewB4 w11
        refine ⟨⟨i + 1, _, _, _, _, rfl, by omega, by go_num, by rw [E2_.out]; rfl, rfl, BX11.out.below D12 BX11.out.lt, OA11.out.below D12, OB11.out.below D12, BR11.out.below D12 BR11.out.lt, up B11.out D12 B11.out.size⟩, by simp [intOf]; omega⟩
      · obtain rfl : i = gs.length := by omega
        have LB := lput_len h gs l2 false gs.length
        go_wp2_with fail
        refine ⟨⟨k + 1, _, _, _, rfl, by omega, by go_num, by rw [LS2.out], by rw [LS2.out], BX8.out, by rw [LS2.out]; exact OT8.out, by rw [LS2.out]; exact OG8.out, ?_, ?_, AK2.out, B8.out⟩, by simp [intOf]; omega⟩
        · have h2 : l2.1.length ≤ T.length + 1 := LLH.out.1
          rw [LS2.out]
          show (lput h gs l2 false gs.length).1.1.length ≤ k + 1
          rw [LB.1]
          omega
        · have h1 : (lput h gs l2 false gs.length).1.2.length ≤ l2.2.length + gs.length := LB.2
          have h2 : l2.2.length = G.length := congrArg List.length LLH.out.2
          rw [LS2.out]
          show (lput h gs l2 false gs.length).1.2.length ≤ 30 * (k + 1)
          omega
    · subst z1
      have d2 : decide (er = 0) = (er == 0) := rfl
      obtain rfl : ok0 = false := by rw [hok0]; simp only [d2, z2, z3, z4, Bool.true_and, Bool.false_and, Bool.and_false]
      clear hok0
      have z3p : decide (h > la) = true := z3
      have z4p : decide (u ≥ 0) = false := z4
      have RSS := Lib.hid (rset_any A5 c5 T5 C5 e5 G5 h u w5 OA5.out OB5.out (by omega) B5.out.size)
      go_wp2_with fail
      refine RSS.out.mono ?_
      rintro e w6 ⟨va, vb, rfl, oa, ob, hb6⟩
      obtain ⟨A6, c6, rfl, -⟩ := oa.open_
      obtain ⟨C6, e6, rfl, -⟩ := ob.open_
      have hbx := BX5.out.below hb6 BX5.out.lt
      have hbr := BR5.out.below hb6 BR5.out.lt
      obtain ⟨bx7, oa7, ob7, b7, f0, f1, z0, z1, far⟩ := finB (up B5.out hb6 B5.out.size) hbx HXB.out oa ob
      have BR7 := Lib.hid (far _ _ _ hbr (ne_of_ty hbr hbx (by decide)))
      have BX7 := Lib.hid bx7
      have hr2 := BR7.out.cell 2
      have OA7 := Lib.hid (show rk.Own E2 _ w.heap.size 71 _ l2.1 from by rw [HL2.out]; exact oa7)
      have OB7 := Lib.hid (show rk.Own E3 _ w.heap.size 69 _ l2.2 from by rw [HL2.out]; exact ob7)
      have B7 := Lib.hid b7
      clear oa ob hb6 hbx hbr bx7 oa7 ob7 b7 far RSS x0 x1 r0 r1 z3p z4p z2 z3 z4 d2
      go_upto_region 15 with fail
      generalize ((w6.setCell ⟨w.heap.size, 0, none⟩ (.slice A6 (setL T5 h u).length c6)).setCell ⟨w.heap.size, 1, none⟩ (.slice C6 G5.length e6)) = w7 at *
      clear f0 f1 z0 z1
      go_upto_region 15 with fail
      go_wp2_with fail
      go_loopw [4, 8, 72] (fun ok er ix wr => ∃ (i : Nat) (W : World) (va vb : Value) (erz : Int), W = wr ∧ i ≤ gs.length ∧ ix = .int .i64 i ∧ ok = .bool (lput h gs l2 false i).2 ∧ er = .int .i64 erz ∧ Blk wr w.heap.size 29 #[va, vb] ∧ rk.Own E2 wr w.heap.size 71 va (lput h gs l2 false i).1.1 ∧ rk.Own E3 wr w.heap.size 69 vb (lput h gs l2 false i).1.2 ∧ Blk wr rb 47 #[.int .i64 h, .int .i64 u, .slice Ar gs.length cr] ∧ Below w.heap.size w wr) (fun _ _ ix _ => gs.length - (intOf ix).toNat)
      case atStart => exact ⟨0, _, _, _, _, rfl, by omega, rfl, rfl, rfl, BX7.out, OA7.out, OB7.out, BR7.out, B7.out⟩
      case round =>
      clear BX7 OA7 OB7 BR7 B7
      obtain ⟨i, w8, va, vb, erz, rfl, hi, rfl, rfl, rfl, hbx, oT, oG, hbr, hb⟩ := hrel
      have BX8 := Lib.hid hbx
      have OT8 := Lib.hid oT
      have OG8 := Lib.hid oG
      have BR8 := Lib.hid hbr
      have B8 := Lib.hid hb
      obtain ⟨l8, l9⟩ := lput_len h gs l2 false i
      have LN8 := Lib.hid l8
      clear hbx oT oG hbr hb l8
      by_cases hil : i < gs.length
      · have LK := LG.out.below B8.out
        obtain ⟨bb, off, eA, e0, e1⟩ := lay2 LK hil
        have ed : gs.getD i (0, 0) = gs[i] := by simp [List.getD, hil]
        have E1_ := Lib.hid (show (lput h gs l2 false (i + 1)).1 = rputL (lput h gs l2 false i).1.1 (lput h gs l2 false i).1.2 h gs[i].1 gs[i].2 from by
          show rputL _ _ h (gs.getD i (0, 0)).1 (gs.getD i (0, 0)).2 = _
          rw [ed])
        have E2_ := Lib.hid (show (lput h gs l2 false (i + 1)).2 = ((lput h gs l2 false i).2 && decide (rputE (lput h gs l2 false i).1.1 (lput h gs l2 false i).1.2 h gs[i].1 gs[i].2 = 0) && (decide (i = 0) || decide ((gs.getD (i - 1) (0, 0)).1 < gs[i].1))) from by
          show (_ && decide (rputE _ _ h (gs.getD i (0, 0)).1 (gs.getD i (0, 0)).2 = 0) && (_ || decide (_ < (gs.getD i (0, 0)).1))) = _
          rw [ed])
        clear LK ed
        generalize gs[i] = d at *
        obtain ⟨t, p⟩ := d
        dsimp only at e0 e1
        have hm9 := made w8 (.cells #[.int .i64 t, .int .i64 p] 56)
        have BX9 := Lib.hid (BX8.out.below hm9 BX8.out.lt)
        have OT9 := Lib.hid (OT8.out.below hm9)
        have OG9 := Lib.hid (OG8.out.below hm9)
        have BR9 := Lib.hid (BR8.out.below hm9 BR8.out.lt)
        have B9 := Lib.hid (up B8.out hm9 B8.out.size)
        have BG9 := Lib.hid (Blk.new w8 56 #[.int .i64 t, .int .i64 p])
        clear hm9 BX8 OT8 OG8 BR8 B8
        generalize hst : (lput h gs l2 false i).2 = okb at *
        generalize (lput h gs l2 false i).1.1 = T8 at *
        generalize (lput h gs l2 false i).1.2 = G8 at *
        obtain ⟨Ax, cx, rfl, -⟩ := OT9.out.open_
        obtain ⟨Ay, cy, rfl, -⟩ := OG9.out.open_
        subst eA
        go_upto_region 18 with fail
        generalize w8.alloc (.cells #[.int .i64 t, .int .i64 p] 56) = w9 at *
        generalize w8.heap.size = gb at *
        clear e0 e1
        have x0 := BX9.out.cell 0
        have x1 := BX9.out.cell 1
        have r0 := BR9.out.cell 0
        have g0 := BG9.out.cell 0
        have g1 := BG9.out.cell 1
        have ln8 : T8.length ≤ T.length + 1 := by rw [LN8.out]; exact LLH.out.1
        have ln9 : l2.2.length = G.length := congrArg List.length LLH.out.2
        have PU := Lib.hid (rput_any Ax cx T8 Ay cy G8 h t p w9 OT9.out OG9.out (by omega) (by omega) B9.out.size)
        clear ln8 ln9
        go_wp2_with fail
        refine PU.out.mono ?_
        rintro e w10 ⟨va, vb, rfl, oa, ob, hb10⟩
        obtain ⟨A4, c4, rfl, -⟩ := oa.open_
        obtain ⟨C4, e4, rfl, -⟩ := ob.open_
        have hbx := BX9.out.below hb10 BX9.out.lt
        have hbg := BG9.out.below hb10 BG9.out.lt
        have hbr := BR9.out.below hb10 BR9.out.lt
        obtain ⟨bx11, oa11, ob11, b11, f0, f1, z0, z1, far⟩ := finB (up B9.out hb10 B9.out.size) hbx HXB.out oa ob
        have BG11 := Lib.hid (far _ _ _ hbg (ne_of_ty hbg hbx (by decide)))
        have BR11 := Lib.hid (far _ _ _ hbr (ne_of_ty hbr hbx (by decide)))
        have BX11 := Lib.hid bx11
        have OA11 := Lib.hid (show rk.Own E2 _ w.heap.size 71 _ (lput h gs l2 false (i + 1)).1.1 from by rw [E1_.out]; exact oa11)
        have OB11 := Lib.hid (show rk.Own E3 _ w.heap.size 69 _ (lput h gs l2 false (i + 1)).1.2 from by rw [E1_.out]; exact ob11)
        have B11 := Lib.hid b11
        clear oa ob hb10 hbx hbg hbr bx11 oa11 ob11 b11 far PU x0 x1 r0 g0 g1 OT9 OG9 BX9 BR9 BG9 B9
        go_upto_region 19 with fail
        generalize ((w10.setCell ⟨w.heap.size, 0, none⟩ (.slice A4 (rputL T8 G8 h t p).1.length c4)).setCell ⟨w.heap.size, 1, none⟩ (.slice C4 (rputL T8 G8 h t p).2.length e4)) = w11 at *
        clear f0 f1 z0 z1
        rw [lput_false] at hst
        subst hst
        have SS := Lib.hid (show w11.drew.cell? ⟨gb, 0, none⟩ = some (.int .i64 t) ∧ w11.drew.cell? ⟨rb, 2, none⟩ = some (.slice (some ⟨bb, off, none⟩) gs.length cr) from ⟨(BG11.out.below (drewB4 w11) BG11.out.lt).cell 0, (BR11.out.below (drewB4 w11) BR11.out.lt).cell 2⟩)
        refine wp_region_held_drew (S := fun W => W.cell? ⟨gb, 0, none⟩ = some (.int .i64 t) ∧ W.cell? ⟨rb, 2, none⟩ = some (.slice (some ⟨bb, off, none⟩) gs.length cr)) (by kernel_rfl) SS.out (fun hHeld => ?_)
        refine wpAnyH_take (i := 0) (v := ?_) rfl (by kernel_rfl) (by kernel_rfl) (by kernel_rfl) (fun _ _ _ h => h) (Or.inl ⟨by rfl, ?_⟩) (by assumption) ?_
        rotate_left
        · (intro w hSw; (try dsimp only at hSw); first | (go_simp; done) | (go_simp; with_reducible rfl))
        simp only [Act.put, List.getElem_toArray, List.getElem_cons_zero, List.getElem_cons_succ, List.setIfInBounds_toArray, List.set_cons_zero, List.set_cons_succ]
        refine wpAnyH_take (i := 1) (v := ?_) rfl (by kernel_rfl) (by kernel_rfl) (by kernel_rfl) (fun _ _ _ h => h) (Or.inl ⟨by rfl, ?_⟩) (by assumption) ?_
        rotate_left
        · (intro w hSw; (try dsimp only at hSw); first | (go_simp; done) | (go_simp; with_reducible rfl))
        simp only [Act.put, List.getElem_toArray, List.getElem_cons_zero, List.getElem_cons_succ, List.setIfInBounds_toArray, List.set_cons_zero, List.set_cons_succ]
        refine wpAnyH_take (i := 2) (v := undef) rfl (by kernel_rfl) (by kernel_rfl) (by kernel_rfl) (fun _ _ _ h => h) (Or.inr ⟨by rfl, rfl⟩) (by assumption) ?_
        simp only [Act.put, List.getElem_toArray, List.getElem_cons_zero, List.getElem_cons_succ, List.setIfInBounds_toArray, List.set_cons_zero, List.set_cons_succ]
        refine wpAnyH_take (i := 3) (v := undef) rfl (by kernel_rfl) (by kernel_rfl) (by kernel_rfl) (fun _ _ _ h => h) (Or.inr ⟨by rfl, rfl⟩) (by assumption) ?_
        simp only [Act.put, List.getElem_toArray, List.getElem_cons_zero, List.getElem_cons_succ, List.setIfInBounds_toArray, List.set_cons_zero, List.set_cons_succ]
        refine wpAnyH_take (i := 4) (v := ?_) rfl (by kernel_rfl) (by kernel_rfl) (by kernel_rfl) (fun _ _ _ h => h) (Or.inl ⟨by rfl, ?_⟩) (by assumption) ?_
        rotate_left
        · (intro w hSw; (try dsimp only at hSw); first | (go_simp; done) | (go_simp; with_reducible rfl))
        simp only [Act.put, List.getElem_toArray, List.getElem_cons_zero, List.getElem_cons_succ, List.setIfInBounds_toArray, List.set_cons_zero, List.set_cons_succ]
        refine wpAnyH_take (i := 5) (v := ?_) rfl (by kernel_rfl) (by kernel_rfl) (by kernel_rfl) (fun _ _ _ h => h) (Or.inl ⟨by rfl, ?_⟩) (by assumption) ?_
        rotate_left
        · (intro w hSw; (try dsimp only at hSw); first | (go_simp; done) | (go_simp; with_reducible rfl))
        simp only [Act.put, List.getElem_toArray, List.getElem_cons_zero, List.getElem_cons_succ, List.setIfInBounds_toArray, List.set_cons_zero, List.set_cons_succ]
        refine wpAnyH_take (i := 6) (v := undef) rfl (by kernel_rfl) (by kernel_rfl) (by kernel_rfl) (fun _ _ _ h => h) (Or.inr ⟨by rfl, rfl⟩) (by assumption) ?_
        simp only [Act.put, List.getElem_toArray, List.getElem_cons_zero, List.getElem_cons_succ, List.setIfInBounds_toArray, List.set_cons_zero, List.set_cons_succ]
        refine wpAnyH_take (i := 7) (v := undef) rfl (by kernel_rfl) (by kernel_rfl) (by kernel_rfl) (fun _ _ _ h => h) (Or.inr ⟨by rfl, rfl⟩) (by assumption) ?_
        simp only [Act.put, List.getElem_toArray, List.getElem_cons_zero, List.getElem_cons_succ, List.setIfInBounds_toArray, List.set_cons_zero, List.set_cons_succ]
        refine wpAnyH_take (i := 8) (v := undef) rfl (by kernel_rfl) (by kernel_rfl) (by kernel_rfl) (fun _ _ _ h => h) (Or.inr ⟨by rfl, rfl⟩) (by assumption) ?_
        simp only [Act.put, List.getElem_toArray, List.getElem_cons_zero, List.getElem_cons_succ, List.setIfInBounds_toArray, List.set_cons_zero, List.set_cons_succ]
        refine wpAnyH_take (i := 9) (v := undef) rfl (by kernel_rfl) (by kernel_rfl) (by kernel_rfl) (fun _ _ _ h => h) (Or.inr ⟨by rfl, rfl⟩) (by assumption) ?_
        simp only [Act.put, List.getElem_toArray, List.getElem_cons_zero, List.getElem_cons_succ, List.setIfInBounds_toArray, List.set_cons_zero, List.set_cons_succ]
        refine wpAnyH_take (i := 10) (v := undef) rfl (by kernel_rfl) (by kernel_rfl) (by kernel_rfl) (fun _ _ _ h => h) (Or.inr ⟨by rfl, rfl⟩) (by assumption) ?_
        simp only [Act.put, List.getElem_toArray, List.getElem_cons_zero, List.getElem_cons_succ, List.setIfInBounds_toArray, List.set_cons_zero, List.set_cons_succ]
        refine wpAnyH_take (i := 11) (v := undef) rfl (by kernel_rfl) (by kernel_rfl) (by kernel_rfl) (fun _ _ _ h => h) (Or.inr ⟨by rfl, rfl⟩) (by assumption) ?_
        simp only [Act.put, List.getElem_toArray, List.getElem_cons_zero, List.getElem_cons_succ, List.setIfInBounds_toArray, List.set_cons_zero, List.set_cons_succ]
        refine wpAnyH_take (i := 12) (v := undef) rfl (by kernel_rfl) (by kernel_rfl) (by kernel_rfl) (fun _ _ _ h => h) (Or.inr ⟨by rfl, rfl⟩) (by assumption) ?_
        simp only [Act.put, List.getElem_toArray, List.getElem_cons_zero, List.getElem_cons_succ, List.setIfInBounds_toArray, List.set_cons_zero, List.set_cons_succ]
        refine wpAnyH_take (i := 13) (v := undef) rfl (by kernel_rfl) (by kernel_rfl) (by kernel_rfl) (fun _ _ _ h => h) (Or.inr ⟨by rfl, rfl⟩) (by assumption) ?_
        simp only [Act.put, List.getElem_toArray, List.getElem_cons_zero, List.getElem_cons_succ, List.setIfInBounds_toArray, List.set_cons_zero, List.set_cons_succ]
        refine wpAnyH_take (i := 14) (v := undef) rfl (by kernel_rfl) (by kernel_rfl) (by kernel_rfl) (fun _ _ _ h => h) (Or.inr ⟨by rfl, rfl⟩) (by assumption) ?_
        simp only [Act.put, List.getElem_toArray, List.getElem_cons_zero, List.getElem_cons_succ, List.setIfInBounds_toArray, List.set_cons_zero, List.set_cons_succ]
        refine wpAnyH_take (i := 15) (v := undef) rfl (by kernel_rfl) (by kernel_rfl) (by kernel_rfl) (fun _ _ _ h => h) (Or.inr ⟨by rfl, rfl⟩) (by assumption) ?_
        simp only [Act.put, List.getElem_toArray, List.getElem_cons_zero, List.getElem_cons_succ, List.setIfInBounds_toArray, List.set_cons_zero, List.set_cons_succ]
        refine wpAnyH_take (i := 16) (v := undef) rfl (by kernel_rfl) (by kernel_rfl) (by kernel_rfl) (fun _ _ _ h => h) (Or.inr ⟨by rfl, rfl⟩) (by assumption) ?_
        simp only [Act.put, List.getElem_toArray, List.getElem_cons_zero, List.getElem_cons_succ, List.setIfInBounds_toArray, List.set_cons_zero, List.set_cons_succ]
        refine wpAnyH_take (i := 17) (v := undef) rfl (by kernel_rfl) (by kernel_rfl) (by kernel_rfl) (fun _ _ _ h => h) (Or.inr ⟨by rfl, rfl⟩) (by assumption) ?_
        simp only [Act.put, List.getElem_toArray, List.getElem_cons_zero, List.getElem_cons_succ, List.setIfInBounds_toArray, List.set_cons_zero, List.set_cons_succ]
        refine wpAnyH_take (i := 18) (v := undef) rfl (by kernel_rfl) (by kernel_rfl) (by kernel_rfl) (fun _ _ _ h => h) (Or.inr ⟨by rfl, rfl⟩) (by assumption) ?_
        simp only [Act.put, List.getElem_toArray, List.getElem_cons_zero, List.getElem_cons_succ, List.setIfInBounds_toArray, List.set_cons_zero, List.set_cons_succ]
        refine wpAnyH_take (i := 19) (v := undef) rfl (by kernel_rfl) (by kernel_rfl) (by kernel_rfl) (fun _ _ _ h => h) (Or.inr ⟨by rfl, rfl⟩) (by assumption) ?_
        simp only [Act.put, List.getElem_toArray, List.getElem_cons_zero, List.getElem_cons_succ, List.setIfInBounds_toArray, List.set_cons_zero, List.set_cons_succ]
        refine wpAnyH_take (i := 20) (v := ?_) rfl (by kernel_rfl) (by kernel_rfl) (by kernel_rfl) (fun _ _ _ h => h) (Or.inl ⟨by rfl, ?_⟩) (by assumption) ?_
        rotate_left
        · (intro w hSw; (try dsimp only at hSw); first | (go_simp; done) | (go_simp; with_reducible rfl))
        simp only [Act.put, List.getElem_toArray, List.getElem_cons_zero, List.getElem_cons_succ, List.setIfInBounds_toArray, List.set_cons_zero, List.set_cons_succ]
        refine wpAnyH_take (i := 21) (v := ?_) rfl (by kernel_rfl) (by kernel_rfl) (by kernel_rfl) (fun _ _ _ h => h) (Or.inl ⟨by rfl, ?_⟩) (by assumption) ?_
        rotate_left
        · (intro w hSw; (try dsimp only at hSw); first | (go_simp; done) | (go_simp; with_reducible rfl))
        simp only [Act.put, List.getElem_toArray, List.getElem_cons_zero, List.getElem_cons_succ, List.setIfInBounds_toArray, List.set_cons_zero, List.set_cons_succ]
        refine wpAnyH_done (by kernel_rfl) ?_ _
        clear hHeld
        go_wp2_with fail
        have D12 := drewB4 w11
        refine ⟨⟨i + 1, _, _, _, _, rfl, by omega, by go_num, by rw [E2_.out]; rfl, rfl, BX11.out.below D12 BX11.out.lt, OA11.out.below D12, OB11.out.below D12, BR11.out.below D12 BR11.out.lt, up B11.out D12 B11.out.size⟩, by simp [intOf]; omega⟩
      · obtain rfl : i = gs.length := by omega
        have LB := lput_len h gs l2 false gs.length
        go_wp2_with fail
        refine ⟨⟨k + 1, _, _, _, rfl, by omega, by go_num, by rw [LS2.out], by rw [LS2.out], BX8.out, by rw [LS2.out]; exact OT8.out, by rw [LS2.out]; exact OG8.out, ?_, ?_, AK2.out, B8.out⟩, by simp [intOf]; omega⟩
        · have h2 : l2.1.length ≤ T.length + 1 := LLH.out.1
          rw [LS2.out]
          show (lput h gs l2 false gs.length).1.1.length ≤ k + 1
          rw [LB.1]
          omega
        · have h1 : (lput h gs l2 false gs.length).1.2.length ≤ l2.2.length + gs.length := LB.2
          have h2 : l2.2.length = G.length := congrArg List.length LLH.out.2
          rw [LS2.out]
          show (lput h gs l2 false gs.length).1.2.length ≤ 30 * (k + 1)
          omega
    · subst z1
      have d2 : decide (er = 0) = (er == 0) := rfl
      obtain rfl : ok0 = false := by rw [hok0]; simp only [d2, z2, z3, z4, z5, Bool.true_and, Bool.false_and, Bool.and_false]
      clear hok0
      have z3p : decide (h > la) = true := z3
      have z4p : decide (u ≥ 0) = true := z4
      have RSS := Lib.hid (rset_any A5 c5 T5 C5 e5 G5 h u w5 OA5.out OB5.out (by omega) B5.out.size)
      go_wp2_with fail
      refine RSS.out.mono ?_
      rintro e w6 ⟨va, vb, rfl, oa, ob, hb6⟩
      obtain ⟨A6, c6, rfl, -⟩ := oa.open_
      obtain ⟨C6, e6, rfl, -⟩ := ob.open_
      have hbx := BX5.out.below hb6 BX5.out.lt
      have hbr := BR5.out.below hb6 BR5.out.lt
      obtain ⟨bx7, oa7, ob7, b7, f0, f1, z0, z1, far⟩ := finB (up B5.out hb6 B5.out.size) hbx HXB.out oa ob
      have BR7 := Lib.hid (far _ _ _ hbr (ne_of_ty hbr hbx (by decide)))
      have BX7 := Lib.hid bx7
      have hr2 := BR7.out.cell 2
      have OA7 := Lib.hid (show rk.Own E2 _ w.heap.size 71 _ l2.1 from by rw [HL2.out]; exact oa7)
      have OB7 := Lib.hid (show rk.Own E3 _ w.heap.size 69 _ l2.2 from by rw [HL2.out]; exact ob7)
      have B7 := Lib.hid b7
      clear oa ob hb6 hbx hbr bx7 oa7 ob7 b7 far RSS x0 x1 r0 r1 z3p z4p z2 z3 z4 z5 d2
      go_upto_region 15 with fail
      generalize ((w6.setCell ⟨w.heap.size, 0, none⟩ (.slice A6 (setL T5 h u).length c6)).setCell ⟨w.heap.size, 1, none⟩ (.slice C6 G5.length e6)) = w7 at *
      clear f0 f1 z0 z1
      go_upto_region 15 with fail
      go_wp2_with fail
      go_loopw [4, 8, 72] (fun ok er ix wr => ∃ (i : Nat) (W : World) (va vb : Value) (erz : Int), W = wr ∧ i ≤ gs.length ∧ ix = .int .i64 i ∧ ok = .bool (lput h gs l2 false i).2 ∧ er = .int .i64 erz ∧ Blk wr w.heap.size 29 #[va, vb] ∧ rk.Own E2 wr w.heap.size 71 va (lput h gs l2 false i).1.1 ∧ rk.Own E3 wr w.heap.size 69 vb (lput h gs l2 false i).1.2 ∧ Blk wr rb 47 #[.int .i64 h, .int .i64 u, .slice Ar gs.length cr] ∧ Below w.heap.size w wr) (fun _ _ ix _ => gs.length - (intOf ix).toNat)
      case atStart => exact ⟨0, _, _, _, _, rfl, by omega, rfl, rfl, rfl, BX7.out, OA7.out, OB7.out, BR7.out, B7.out⟩
      case round =>
      clear BX7 OA7 OB7 BR7 B7
      obtain ⟨i, w8, va, vb, erz, rfl, hi, rfl, rfl, rfl, hbx, oT, oG, hbr, hb⟩ := hrel
      have BX8 := Lib.hid hbx
      have OT8 := Lib.hid oT
      have OG8 := Lib.hid oG
      have BR8 := Lib.hid hbr
      have B8 := Lib.hid hb
      obtain ⟨l8, l9⟩ := lput_len h gs l2 false i
      have LN8 := Lib.hid l8
      clear hbx oT oG hbr hb l8
      by_cases hil : i < gs.length
      · have LK := LG.out.below B8.out
        obtain ⟨bb, off, eA, e0, e1⟩ := lay2 LK hil
        have ed : gs.getD i (0, 0) = gs[i] := by simp [List.getD, hil]
        have E1_ := Lib.hid (show (lput h gs l2 false (i + 1)).1 = rputL (lput h gs l2 false i).1.1 (lput h gs l2 false i).1.2 h gs[i].1 gs[i].2 from by
          show rputL _ _ h (gs.getD i (0, 0)).1 (gs.getD i (0, 0)).2 = _
          rw [ed])
        have E2_ := Lib.hid (show (lput h gs l2 false (i + 1)).2 = ((lput h gs l2 false i).2 && decide (rputE (lput h gs l2 false i).1.1 (lput h gs l2 false i).1.2 h gs[i].1 gs[i].2 = 0) && (decide (i = 0) || decide ((gs.getD (i - 1) (0, 0)).1 < gs[i].1))) from by
          show (_ && decide (rputE _ _ h (gs.getD i (0, 0)).1 (gs.getD i (0, 0)).2 = 0) && (_ || decide (_ < (gs.getD i (0, 0)).1))) = _
          rw [ed])
        clear LK ed
        generalize gs[i] = d at *
        obtain ⟨t, p⟩ := d
        dsimp only at e0 e1
        have hm9 := made w8 (.cells #[.int .i64 t, .int .i64 p] 56)
        have BX9 := Lib.hid (BX8.out.below hm9 BX8.out.lt)
        have OT9 := Lib.hid (OT8.out.below hm9)
        have OG9 := Lib.hid (OG8.out.below hm9)
        have BR9 := Lib.hid (BR8.out.below hm9 BR8.out.lt)
        have B9 := Lib.hid (up B8.out hm9 B8.out.size)
        have BG9 := Lib.hid (Blk.new w8 56 #[.int .i64 t, .int .i64 p])
        clear hm9 BX8 OT8 OG8 BR8 B8
        generalize hst : (lput h gs l2 false i).2 = okb at *
        generalize (lput h gs l2 false i).1.1 = T8 at *
        generalize (lput h gs l2 false i).1.2 = G8 at *
        obtain ⟨Ax, cx, rfl, -⟩ := OT9.out.open_
        obtain ⟨Ay, cy, rfl, -⟩ := OG9.out.open_
        subst eA
        go_upto_region 18 with fail
        generalize w8.alloc (.cells #[.int .i64 t, .int .i64 p] 56) = w9 at *
        generalize w8.heap.size = gb at *
        clear e0 e1
        have x0 := BX9.out.cell 0
        have x1 := BX9.out.cell 1
        have r0 := BR9.out.cell 0
        have g0 := BG9.out.cell 0
        have g1 := BG9.out.cell 1
        have ln8 : T8.length ≤ T.length + 1 := by rw [LN8.out]; exact LLH.out.1
        have ln9 : l2.2.length = G.length := congrArg List.length LLH.out.2
        have PU := Lib.hid (rput_any Ax cx T8 Ay cy G8 h t p w9 OT9.out OG9.out (by omega) (by omega) B9.out.size)
        clear ln8 ln9
        go_wp2_with fail
        refine PU.out.mono ?_
        rintro e w10 ⟨va, vb, rfl, oa, ob, hb10⟩
        obtain ⟨A4, c4, rfl, -⟩ := oa.open_
        obtain ⟨C4, e4, rfl, -⟩ := ob.open_
        have hbx := BX9.out.below hb10 BX9.out.lt
        have hbg := BG9.out.below hb10 BG9.out.lt
        have hbr := BR9.out.below hb10 BR9.out.lt
        obtain ⟨bx11, oa11, ob11, b11, f0, f1, z0, z1, far⟩ := finB (up B9.out hb10 B9.out.size) hbx HXB.out oa ob
        have BG11 := Lib.hid (far _ _ _ hbg (ne_of_ty hbg hbx (by decide)))
        have BR11 := Lib.hid (far _ _ _ hbr (ne_of_ty hbr hbx (by decide)))
        have BX11 := Lib.hid bx11
        have OA11 := Lib.hid (show rk.Own E2 _ w.heap.size 71 _ (lput h gs l2 false (i + 1)).1.1 from by rw [E1_.out]; exact oa11)
        have OB11 := Lib.hid (show rk.Own E3 _ w.heap.size 69 _ (lput h gs l2 false (i + 1)).1.2 from by rw [E1_.out]; exact ob11)
        have B11 := Lib.hid b11
        clear oa ob hb10 hbx hbg hbr bx11 oa11 ob11 b11 far PU x0 x1 r0 g0 g1 OT9 OG9 BX9 BR9 BG9 B9
        go_upto_region 19 with fail
        generalize ((w10.setCell ⟨w.heap.size, 0, none⟩ (.slice A4 (rputL T8 G8 h t p).1.length c4)).setCell ⟨w.heap.size, 1, none⟩ (.slice C4 (rputL T8 G8 h t p).2.length e4)) = w11 at *
        clear f0 f1 z0 z1
        rw [lput_false] at hst
        subst hst
        have SS := Lib.hid (show w11.drew.cell? ⟨gb, 0, none⟩ = some (.int .i64 t) ∧ w11.drew.cell? ⟨rb, 2, none⟩ = some (.slice (some ⟨bb, off, none⟩) gs.length cr) from ⟨(BG11.out.below (drewB4 w11) BG11.out.lt).cell 0, (BR11.out.below (drewB4 w11) BR11.out.lt).cell 2⟩)
        refine wp_region_held_drew (S := fun W => W.cell? ⟨gb, 0, none⟩ = some (.int .i64 t) ∧ W.cell? ⟨rb, 2, none⟩ = some (.slice (some ⟨bb, off, none⟩) gs.length cr)) (by kernel_rfl) SS.out (fun hHeld => ?_)
        refine wpAnyH_take (i := 0) (v := ?_) rfl (by kernel_rfl) (by kernel_rfl) (by kernel_rfl) (fun _ _ _ h => h) (Or.inl ⟨by rfl, ?_⟩) (by assumption) ?_
        rotate_left
        · (intro w hSw; (try dsimp only at hSw); first | (go_simp; done) | (go_simp; with_reducible rfl))
        simp only [Act.put, List.getElem_toArray, List.getElem_cons_zero, List.getElem_cons_succ, List.setIfInBounds_toArray, List.set_cons_zero, List.set_cons_succ]
        refine wpAnyH_take (i := 1) (v := ?_) rfl (by kernel_rfl) (by kernel_rfl) (by kernel_rfl) (fun _ _ _ h => h) (Or.inl ⟨by rfl, ?_⟩) (by assumption) ?_
        rotate_left
        · (intro w hSw; (try dsimp only at hSw); first | (go_simp; done) | (go_simp; with_reducible rfl))
        simp only [Act.put, List.getElem_toArray, List.getElem_cons_zero, List.getElem_cons_succ, List.setIfInBounds_toArray, List.set_cons_zero, List.set_cons_succ]
        refine wpAnyH_take (i := 2) (v := undef) rfl (by kernel_rfl) (by kernel_rfl) (by kernel_rfl) (fun _ _ _ h => h) (Or.inr ⟨by rfl, rfl⟩) (by assumption) ?_
        simp only [Act.put, List.getElem_toArray, List.getElem_cons_zero, List.getElem_cons_succ, List.setIfInBounds_toArray, List.set_cons_zero, List.set_cons_succ]
        refine wpAnyH_take (i := 3) (v := undef) rfl (by kernel_rfl) (by kernel_rfl) (by kernel_rfl) (fun _ _ _ h => h) (Or.inr ⟨by rfl, rfl⟩) (by assumption) ?_
        simp only [Act.put, List.getElem_toArray, List.getElem_cons_zero, List.getElem_cons_succ, List.setIfInBounds_toArray, List.set_cons_zero, List.set_cons_succ]
        refine wpAnyH_take (i := 4) (v := ?_) rfl (by kernel_rfl) (by kernel_rfl) (by kernel_rfl) (fun _ _ _ h => h) (Or.inl ⟨by rfl, ?_⟩) (by assumption) ?_
        rotate_left
        · (intro w hSw; (try dsimp only at hSw); first | (go_simp; done) | (go_simp; with_reducible rfl))
        simp only [Act.put, List.getElem_toArray, List.getElem_cons_zero, List.getElem_cons_succ, List.setIfInBounds_toArray, List.set_cons_zero, List.set_cons_succ]
        refine wpAnyH_take (i := 5) (v := ?_) rfl (by kernel_rfl) (by kernel_rfl) (by kernel_rfl) (fun _ _ _ h => h) (Or.inl ⟨by rfl, ?_⟩) (by assumption) ?_
        rotate_left
        · (intro w hSw; (try dsimp only at hSw); first | (go_simp; done) | (go_simp; with_reducible rfl))
        simp only [Act.put, List.getElem_toArray, List.getElem_cons_zero, List.getElem_cons_succ, List.setIfInBounds_toArray, List.set_cons_zero, List.set_cons_succ]
        refine wpAnyH_take (i := 6) (v := undef) rfl (by kernel_rfl) (by kernel_rfl) (by kernel_rfl) (fun _ _ _ h => h) (Or.inr ⟨by rfl, rfl⟩) (by assumption) ?_
        simp only [Act.put, List.getElem_toArray, List.getElem_cons_zero, List.getElem_cons_succ, List.setIfInBounds_toArray, List.set_cons_zero, List.set_cons_succ]
        refine wpAnyH_take (i := 7) (v := undef) rfl (by kernel_rfl) (by kernel_rfl) (by kernel_rfl) (fun _ _ _ h => h) (Or.inr ⟨by rfl, rfl⟩) (by assumption) ?_
        simp only [Act.put, List.getElem_toArray, List.getElem_cons_zero, List.getElem_cons_succ, List.setIfInBounds_toArray, List.set_cons_zero, List.set_cons_succ]
        refine wpAnyH_take (i := 8) (v := undef) rfl (by kernel_rfl) (by kernel_rfl) (by kernel_rfl) (fun _ _ _ h => h) (Or.inr ⟨by rfl, rfl⟩) (by assumption) ?_
        simp only [Act.put, List.getElem_toArray, List.getElem_cons_zero, List.getElem_cons_succ, List.setIfInBounds_toArray, List.set_cons_zero, List.set_cons_succ]
        refine wpAnyH_take (i := 9) (v := undef) rfl (by kernel_rfl) (by kernel_rfl) (by kernel_rfl) (fun _ _ _ h => h) (Or.inr ⟨by rfl, rfl⟩) (by assumption) ?_
        simp only [Act.put, List.getElem_toArray, List.getElem_cons_zero, List.getElem_cons_succ, List.setIfInBounds_toArray, List.set_cons_zero, List.set_cons_succ]
        refine wpAnyH_take (i := 10) (v := undef) rfl (by kernel_rfl) (by kernel_rfl) (by kernel_rfl) (fun _ _ _ h => h) (Or.inr ⟨by rfl, rfl⟩) (by assumption) ?_
        simp only [Act.put, List.getElem_toArray, List.getElem_cons_zero, List.getElem_cons_succ, List.setIfInBounds_toArray, List.set_cons_zero, List.set_cons_succ]
        refine wpAnyH_take (i := 11) (v := undef) rfl (by kernel_rfl) (by kernel_rfl) (by kernel_rfl) (fun _ _ _ h => h) (Or.inr ⟨by rfl, rfl⟩) (by assumption) ?_
        simp only [Act.put, List.getElem_toArray, List.getElem_cons_zero, List.getElem_cons_succ, List.setIfInBounds_toArray, List.set_cons_zero, List.set_cons_succ]
        refine wpAnyH_take (i := 12) (v := undef) rfl (by kernel_rfl) (by kernel_rfl) (by kernel_rfl) (fun _ _ _ h => h) (Or.inr ⟨by rfl, rfl⟩) (by assumption) ?_
        simp only [Act.put, List.getElem_toArray, List.getElem_cons_zero, List.getElem_cons_succ, List.setIfInBounds_toArray, List.set_cons_zero, List.set_cons_succ]
        refine wpAnyH_take (i := 13) (v := undef) rfl (by kernel_rfl) (by kernel_rfl) (by kernel_rfl) (fun _ _ _ h => h) (Or.inr ⟨by rfl, rfl⟩) (by assumption) ?_
        simp only [Act.put, List.getElem_toArray, List.getElem_cons_zero, List.getElem_cons_succ, List.setIfInBounds_toArray, List.set_cons_zero, List.set_cons_succ]
        refine wpAnyH_take (i := 14) (v := undef) rfl (by kernel_rfl) (by kernel_rfl) (by kernel_rfl) (fun _ _ _ h => h) (Or.inr ⟨by rfl, rfl⟩) (by assumption) ?_
        simp only [Act.put, List.getElem_toArray, List.getElem_cons_zero, List.getElem_cons_succ, List.setIfInBounds_toArray, List.set_cons_zero, List.set_cons_succ]
        refine wpAnyH_take (i := 15) (v := undef) rfl (by kernel_rfl) (by kernel_rfl) (by kernel_rfl) (fun _ _ _ h => h) (Or.inr ⟨by rfl, rfl⟩) (by assumption) ?_
        simp only [Act.put, List.getElem_toArray, List.getElem_cons_zero, List.getElem_cons_succ, List.setIfInBounds_toArray, List.set_cons_zero, List.set_cons_succ]
        refine wpAnyH_take (i := 16) (v := undef) rfl (by kernel_rfl) (by kernel_rfl) (by kernel_rfl) (fun _ _ _ h => h) (Or.inr ⟨by rfl, rfl⟩) (by assumption) ?_
        simp only [Act.put, List.getElem_toArray, List.getElem_cons_zero, List.getElem_cons_succ, List.setIfInBounds_toArray, List.set_cons_zero, List.set_cons_succ]
        refine wpAnyH_take (i := 17) (v := undef) rfl (by kernel_rfl) (by kernel_rfl) (by kernel_rfl) (fun _ _ _ h => h) (Or.inr ⟨by rfl, rfl⟩) (by assumption) ?_
        simp only [Act.put, List.getElem_toArray, List.getElem_cons_zero, List.getElem_cons_succ, List.setIfInBounds_toArray, List.set_cons_zero, List.set_cons_succ]
        refine wpAnyH_take (i := 18) (v := undef) rfl (by kernel_rfl) (by kernel_rfl) (by kernel_rfl) (fun _ _ _ h => h) (Or.inr ⟨by rfl, rfl⟩) (by assumption) ?_
        simp only [Act.put, List.getElem_toArray, List.getElem_cons_zero, List.getElem_cons_succ, List.setIfInBounds_toArray, List.set_cons_zero, List.set_cons_succ]
        refine wpAnyH_take (i := 19) (v := undef) rfl (by kernel_rfl) (by kernel_rfl) (by kernel_rfl) (fun _ _ _ h => h) (Or.inr ⟨by rfl, rfl⟩) (by assumption) ?_
        simp only [Act.put, List.getElem_toArray, List.getElem_cons_zero, List.getElem_cons_succ, List.setIfInBounds_toArray, List.set_cons_zero, List.set_cons_succ]
        refine wpAnyH_take (i := 20) (v := ?_) rfl (by kernel_rfl) (by kernel_rfl) (by kernel_rfl) (fun _ _ _ h => h) (Or.inl ⟨by rfl, ?_⟩) (by assumption) ?_
        rotate_left
        · (intro w hSw; (try dsimp only at hSw); first | (go_simp; done) | (go_simp; with_reducible rfl))
        simp only [Act.put, List.getElem_toArray, List.getElem_cons_zero, List.getElem_cons_succ, List.setIfInBounds_toArray, List.set_cons_zero, List.set_cons_succ]
        refine wpAnyH_take (i := 21) (v := ?_) rfl (by kernel_rfl) (by kernel_rfl) (by kernel_rfl) (fun _ _ _ h => h) (Or.inl ⟨by rfl, ?_⟩) (by assumption) ?_
        rotate_left
        · (intro w hSw; (try dsimp only at hSw); first | (go_simp; done) | (go_simp; with_reducible rfl))
        simp only [Act.put, List.getElem_toArray, List.getElem_cons_zero, List.getElem_cons_succ, List.setIfInBounds_toArray, List.set_cons_zero, List.set_cons_succ]
        refine wpAnyH_done (by kernel_rfl) ?_ _
        clear hHeld
        go_wp2_with fail
        have D12 := drewB4 w11
        refine ⟨⟨i + 1, _, _, _, _, rfl, by omega, by go_num, by rw [E2_.out]; rfl, rfl, BX11.out.below D12 BX11.out.lt, OA11.out.below D12, OB11.out.below D12, BR11.out.below D12 BR11.out.lt, up B11.out D12 B11.out.size⟩, by simp [intOf]; omega⟩
      · obtain rfl : i = gs.length := by omega
        have LB := lput_len h gs l2 false gs.length
        go_wp2_with fail
        refine ⟨⟨k + 1, _, _, _, rfl, by omega, by go_num, by rw [LS2.out], by rw [LS2.out], BX8.out, by rw [LS2.out]; exact OT8.out, by rw [LS2.out]; exact OG8.out, ?_, ?_, AK2.out, B8.out⟩, by simp [intOf]; omega⟩
        · have h2 : l2.1.length ≤ T.length + 1 := LLH.out.1
          rw [LS2.out]
          show (lput h gs l2 false gs.length).1.1.length ≤ k + 1
          rw [LB.1]
          omega
        · have h1 : (lput h gs l2 false gs.length).1.2.length ≤ l2.2.length + gs.length := LB.2
          have h2 : l2.2.length = G.length := congrArg List.length LLH.out.2
          rw [LS2.out]
          show (lput h gs l2 false gs.length).1.2.length ≤ 30 * (k + 1)
          omega
    · subst z1
      have d2 : decide (er = 0) = (er == 0) := rfl
      obtain rfl : ok0 = true := by rw [hok0]; simp only [d2, z2, z3, z4, z5, Bool.true_and, Bool.false_and, Bool.and_false]
      clear hok0
      have z3p : decide (h > la) = true := z3
      have z4p : decide (u ≥ 0) = true := z4
      have RSS := Lib.hid (rset_any A5 c5 T5 C5 e5 G5 h u w5 OA5.out OB5.out (by omega) B5.out.size)
      go_wp2_with fail
      refine RSS.out.mono ?_
      rintro e w6 ⟨va, vb, rfl, oa, ob, hb6⟩
      obtain ⟨A6, c6, rfl, -⟩ := oa.open_
      obtain ⟨C6, e6, rfl, -⟩ := ob.open_
      have hbx := BX5.out.below hb6 BX5.out.lt
      have hbr := BR5.out.below hb6 BR5.out.lt
      obtain ⟨bx7, oa7, ob7, b7, f0, f1, z0, z1, far⟩ := finB (up B5.out hb6 B5.out.size) hbx HXB.out oa ob
      have BR7 := Lib.hid (far _ _ _ hbr (ne_of_ty hbr hbx (by decide)))
      have BX7 := Lib.hid bx7
      have hr2 := BR7.out.cell 2
      have OA7 := Lib.hid (show rk.Own E2 _ w.heap.size 71 _ l2.1 from by rw [HL2.out]; exact oa7)
      have OB7 := Lib.hid (show rk.Own E3 _ w.heap.size 69 _ l2.2 from by rw [HL2.out]; exact ob7)
      have B7 := Lib.hid b7
      clear oa ob hb6 hbx hbr bx7 oa7 ob7 b7 far RSS x0 x1 r0 r1 z3p z4p z2 z3 z4 z5 d2
      go_upto_region 15 with fail
      generalize ((w6.setCell ⟨w.heap.size, 0, none⟩ (.slice A6 (setL T5 h u).length c6)).setCell ⟨w.heap.size, 1, none⟩ (.slice C6 G5.length e6)) = w7 at *
      clear f0 f1 z0 z1
      go_upto_region 15 with fail
      go_wp2_with fail
      go_loopw [4, 8, 72] (fun ok er ix wr => ∃ (i : Nat) (W : World) (va vb : Value) (erz : Int), W = wr ∧ i ≤ gs.length ∧ ix = .int .i64 i ∧ ok = .bool (lput h gs l2 true i).2 ∧ er = .int .i64 erz ∧ Blk wr w.heap.size 29 #[va, vb] ∧ rk.Own E2 wr w.heap.size 71 va (lput h gs l2 true i).1.1 ∧ rk.Own E3 wr w.heap.size 69 vb (lput h gs l2 true i).1.2 ∧ Blk wr rb 47 #[.int .i64 h, .int .i64 u, .slice Ar gs.length cr] ∧ Below w.heap.size w wr) (fun _ _ ix _ => gs.length - (intOf ix).toNat)
      case atStart => exact ⟨0, _, _, _, _, rfl, by omega, rfl, rfl, rfl, BX7.out, OA7.out, OB7.out, BR7.out, B7.out⟩
      case round =>
      clear BX7 OA7 OB7 BR7 B7
      obtain ⟨i, w8, va, vb, erz, rfl, hi, rfl, rfl, rfl, hbx, oT, oG, hbr, hb⟩ := hrel
      have BX8 := Lib.hid hbx
      have OT8 := Lib.hid oT
      have OG8 := Lib.hid oG
      have BR8 := Lib.hid hbr
      have B8 := Lib.hid hb
      obtain ⟨l8, l9⟩ := lput_len h gs l2 true i
      have LN8 := Lib.hid l8
      clear hbx oT oG hbr hb l8
      by_cases hil : i < gs.length
      · have LK := LG.out.below B8.out
        obtain ⟨bb, off, eA, e0, e1⟩ := lay2 LK hil
        have ed : gs.getD i (0, 0) = gs[i] := by simp [List.getD, hil]
        have E1_ := Lib.hid (show (lput h gs l2 true (i + 1)).1 = rputL (lput h gs l2 true i).1.1 (lput h gs l2 true i).1.2 h gs[i].1 gs[i].2 from by
          show rputL _ _ h (gs.getD i (0, 0)).1 (gs.getD i (0, 0)).2 = _
          rw [ed])
        have E2_ := Lib.hid (show (lput h gs l2 true (i + 1)).2 = ((lput h gs l2 true i).2 && decide (rputE (lput h gs l2 true i).1.1 (lput h gs l2 true i).1.2 h gs[i].1 gs[i].2 = 0) && (decide (i = 0) || decide ((gs.getD (i - 1) (0, 0)).1 < gs[i].1))) from by
          show (_ && decide (rputE _ _ h (gs.getD i (0, 0)).1 (gs.getD i (0, 0)).2 = 0) && (_ || decide (_ < (gs.getD i (0, 0)).1))) = _
          rw [ed])
        clear LK ed
        generalize gs[i] = d at *
        obtain ⟨t, p⟩ := d
        dsimp only at e0 e1
        have hm9 := made w8 (.cells #[.int .i64 t, .int .i64 p] 56)
        have BX9 := Lib.hid (BX8.out.below hm9 BX8.out.lt)
        have OT9 := Lib.hid (OT8.out.below hm9)
        have OG9 := Lib.hid (OG8.out.below hm9)
        have BR9 := Lib.hid (BR8.out.below hm9 BR8.out.lt)
        have B9 := Lib.hid (up B8.out hm9 B8.out.size)
        have BG9 := Lib.hid (Blk.new w8 56 #[.int .i64 t, .int .i64 p])
        clear hm9 BX8 OT8 OG8 BR8 B8
        generalize hst : (lput h gs l2 true i).2 = okb at *
        generalize (lput h gs l2 true i).1.1 = T8 at *
        generalize (lput h gs l2 true i).1.2 = G8 at *
        obtain ⟨Ax, cx, rfl, -⟩ := OT9.out.open_
        obtain ⟨Ay, cy, rfl, -⟩ := OG9.out.open_
        subst eA
        go_upto_region 18 with fail
        generalize w8.alloc (.cells #[.int .i64 t, .int .i64 p] 56) = w9 at *
        generalize w8.heap.size = gb at *
        clear e0 e1
        have x0 := BX9.out.cell 0
        have x1 := BX9.out.cell 1
        have r0 := BR9.out.cell 0
        have g0 := BG9.out.cell 0
        have g1 := BG9.out.cell 1
        have ln8 : T8.length ≤ T.length + 1 := by rw [LN8.out]; exact LLH.out.1
        have ln9 : l2.2.length = G.length := congrArg List.length LLH.out.2
        have PU := Lib.hid (rput_any Ax cx T8 Ay cy G8 h t p w9 OT9.out OG9.out (by omega) (by omega) B9.out.size)
        clear ln8 ln9
        go_wp2_with fail
        refine PU.out.mono ?_
        rintro e w10 ⟨va, vb, rfl, oa, ob, hb10⟩
        obtain ⟨A4, c4, rfl, -⟩ := oa.open_
        obtain ⟨C4, e4, rfl, -⟩ := ob.open_
        have hbx := BX9.out.below hb10 BX9.out.lt
        have hbg := BG9.out.below hb10 BG9.out.lt
        have hbr := BR9.out.below hb10 BR9.out.lt
        obtain ⟨bx11, oa11, ob11, b11, f0, f1, z0, z1, far⟩ := finB (up B9.out hb10 B9.out.size) hbx HXB.out oa ob
        have BG11 := Lib.hid (far _ _ _ hbg (ne_of_ty hbg hbx (by decide)))
        have BR11 := Lib.hid (far _ _ _ hbr (ne_of_ty hbr hbx (by decide)))
        have BX11 := Lib.hid bx11
        have OA11 := Lib.hid (show rk.Own E2 _ w.heap.size 71 _ (lput h gs l2 true (i + 1)).1.1 from by rw [E1_.out]; exact oa11)
        have OB11 := Lib.hid (show rk.Own E3 _ w.heap.size 69 _ (lput h gs l2 true (i + 1)).1.2 from by rw [E1_.out]; exact ob11)
        have B11 := Lib.hid b11
        clear oa ob hb10 hbx hbg hbr bx11 oa11 ob11 b11 far PU x0 x1 r0 g0 g1 OT9 OG9 BX9 BR9 BG9 B9
        go_upto_region 19 with fail
        generalize ((w10.setCell ⟨w.heap.size, 0, none⟩ (.slice A4 (rputL T8 G8 h t p).1.length c4)).setCell ⟨w.heap.size, 1, none⟩ (.slice C4 (rputL T8 G8 h t p).2.length e4)) = w11 at *
        clear f0 f1 z0 z1
        generalize rputE T8 G8 h t p = er2 at *
        cases okb with
        | false =>
          have SS := Lib.hid (show w11.drew.cell? ⟨gb, 0, none⟩ = some (.int .i64 t) ∧ w11.drew.cell? ⟨rb, 2, none⟩ = some (.slice (some ⟨bb, off, none⟩) gs.length cr) from ⟨(BG11.out.below (drewB4 w11) BG11.out.lt).cell 0, (BR11.out.below (drewB4 w11) BR11.out.lt).cell 2⟩)
          refine wp_region_held_drew (S := fun W => W.cell? ⟨gb, 0, none⟩ = some (.int .i64 t) ∧ W.cell? ⟨rb, 2, none⟩ = some (.slice (some ⟨bb, off, none⟩) gs.length cr)) (by kernel_rfl) SS.out (fun hHeld => ?_)
          refine wpAnyH_take (i := 0) (v := ?_) rfl (by kernel_rfl) (by kernel_rfl) (by kernel_rfl) (fun _ _ _ h => h) (Or.inl ⟨by rfl, ?_⟩) (by assumption) ?_
          rotate_left
          · (intro w hSw; (try dsimp only at hSw); first | (go_simp; done) | (go_simp; with_reducible rfl))
          simp only [Act.put, List.getElem_toArray, List.getElem_cons_zero, List.getElem_cons_succ, List.setIfInBounds_toArray, List.set_cons_zero, List.set_cons_succ]
          refine wpAnyH_take (i := 1) (v := ?_) rfl (by kernel_rfl) (by kernel_rfl) (by kernel_rfl) (fun _ _ _ h => h) (Or.inl ⟨by rfl, ?_⟩) (by assumption) ?_
          rotate_left
          · (intro w hSw; (try dsimp only at hSw); first | (go_simp; done) | (go_simp; with_reducible rfl))
          simp only [Act.put, List.getElem_toArray, List.getElem_cons_zero, List.getElem_cons_succ, List.setIfInBounds_toArray, List.set_cons_zero, List.set_cons_succ]
          refine wpAnyH_take (i := 2) (v := undef) rfl (by kernel_rfl) (by kernel_rfl) (by kernel_rfl) (fun _ _ _ h => h) (Or.inr ⟨by rfl, rfl⟩) (by assumption) ?_
          simp only [Act.put, List.getElem_toArray, List.getElem_cons_zero, List.getElem_cons_succ, List.setIfInBounds_toArray, List.set_cons_zero, List.set_cons_succ]
          refine wpAnyH_take (i := 3) (v := undef) rfl (by kernel_rfl) (by kernel_rfl) (by kernel_rfl) (fun _ _ _ h => h) (Or.inr ⟨by rfl, rfl⟩) (by assumption) ?_
          simp only [Act.put, List.getElem_toArray, List.getElem_cons_zero, List.getElem_cons_succ, List.setIfInBounds_toArray, List.set_cons_zero, List.set_cons_succ]
          refine wpAnyH_take (i := 4) (v := ?_) rfl (by kernel_rfl) (by kernel_rfl) (by kernel_rfl) (fun _ _ _ h => h) (Or.inl ⟨by rfl, ?_⟩) (by assumption) ?_
          rotate_left
          · (intro w hSw; (try dsimp only at hSw); first | (go_simp; done) | (go_simp; with_reducible rfl))
          simp only [Act.put, List.getElem_toArray, List.getElem_cons_zero, List.getElem_cons_succ, List.setIfInBounds_toArray, List.set_cons_zero, List.set_cons_succ]
          refine wpAnyH_take (i := 5) (v := ?_) rfl (by kernel_rfl) (by kernel_rfl) (by kernel_rfl) (fun _ _ _ h => h) (Or.inl ⟨by rfl, ?_⟩) (by assumption) ?_
          rotate_left
          · (intro w hSw; (try dsimp only at hSw); first | (go_simp; done) | (go_simp; with_reducible rfl))
          simp only [Act.put, List.getElem_toArray, List.getElem_cons_zero, List.getElem_cons_succ, List.setIfInBounds_toArray, List.set_cons_zero, List.set_cons_succ]
          refine wpAnyH_take (i := 6) (v := undef) rfl (by kernel_rfl) (by kernel_rfl) (by kernel_rfl) (fun _ _ _ h => h) (Or.inr ⟨by rfl, rfl⟩) (by assumption) ?_
          simp only [Act.put, List.getElem_toArray, List.getElem_cons_zero, List.getElem_cons_succ, List.setIfInBounds_toArray, List.set_cons_zero, List.set_cons_succ]
          refine wpAnyH_take (i := 7) (v := undef) rfl (by kernel_rfl) (by kernel_rfl) (by kernel_rfl) (fun _ _ _ h => h) (Or.inr ⟨by rfl, rfl⟩) (by assumption) ?_
          simp only [Act.put, List.getElem_toArray, List.getElem_cons_zero, List.getElem_cons_succ, List.setIfInBounds_toArray, List.set_cons_zero, List.set_cons_succ]
          refine wpAnyH_take (i := 8) (v := undef) rfl (by kernel_rfl) (by kernel_rfl) (by kernel_rfl) (fun _ _ _ h => h) (Or.inr ⟨by rfl, rfl⟩) (by assumption) ?_
          simp only [Act.put, List.getElem_toArray, List.getElem_cons_zero, List.getElem_cons_succ, List.setIfInBounds_toArray, List.set_cons_zero, List.set_cons_succ]
          refine wpAnyH_take (i := 9) (v := undef) rfl (by kernel_rfl) (by kernel_rfl) (by kernel_rfl) (fun _ _ _ h => h) (Or.inr ⟨by rfl, rfl⟩) (by assumption) ?_
          simp only [Act.put, List.getElem_toArray, List.getElem_cons_zero, List.getElem_cons_succ, List.setIfInBounds_toArray, List.set_cons_zero, List.set_cons_succ]
          refine wpAnyH_take (i := 10) (v := undef) rfl (by kernel_rfl) (by kernel_rfl) (by kernel_rfl) (fun _ _ _ h => h) (Or.inr ⟨by rfl, rfl⟩) (by assumption) ?_
          simp only [Act.put, List.getElem_toArray, List.getElem_cons_zero, List.getElem_cons_succ, List.setIfInBounds_toArray, List.set_cons_zero, List.set_cons_succ]
          refine wpAnyH_take (i := 11) (v := undef) rfl (by kernel_rfl) (by kernel_rfl) (by kernel_rfl) (fun _ _ _ h => h) (Or.inr ⟨by rfl, rfl⟩) (by assumption) ?_
          simp only [Act.put, List.getElem_toArray, List.getElem_cons_zero, List.getElem_cons_succ, List.setIfInBounds_toArray, List.set_cons_zero, List.set_cons_succ]
          refine wpAnyH_take (i := 12) (v := undef) rfl (by kernel_rfl) (by kernel_rfl) (by kernel_rfl) (fun _ _ _ h => h) (Or.inr ⟨by rfl, rfl⟩) (by assumption) ?_
          simp only [Act.put, List.getElem_toArray, List.getElem_cons_zero, List.getElem_cons_succ, List.setIfInBounds_toArray, List.set_cons_zero, List.set_cons_succ]
          refine wpAnyH_take (i := 13) (v := undef) rfl (by kernel_rfl) (by kernel_rfl) (by kernel_rfl) (fun _ _ _ h => h) (Or.inr ⟨by rfl, rfl⟩) (by assumption) ?_
          simp only [Act.put, List.getElem_toArray, List.getElem_cons_zero, List.getElem_cons_succ, List.setIfInBounds_toArray, List.set_cons_zero, List.set_cons_succ]
          refine wpAnyH_take (i := 14) (v := undef) rfl (by kernel_rfl) (by kernel_rfl) (by kernel_rfl) (fun _ _ _ h => h) (Or.inr ⟨by rfl, rfl⟩) (by assumption) ?_
          simp only [Act.put, List.getElem_toArray, List.getElem_cons_zero, List.getElem_cons_succ, List.setIfInBounds_toArray, List.set_cons_zero, List.set_cons_succ]
          refine wpAnyH_take (i := 15) (v := undef) rfl (by kernel_rfl) (by kernel_rfl) (by kernel_rfl) (fun _ _ _ h => h) (Or.inr ⟨by rfl, rfl⟩) (by assumption) ?_
          simp only [Act.put, List.getElem_toArray, List.getElem_cons_zero, List.getElem_cons_succ, List.setIfInBounds_toArray, List.set_cons_zero, List.set_cons_succ]
          refine wpAnyH_take (i := 16) (v := undef) rfl (by kernel_rfl) (by kernel_rfl) (by kernel_rfl) (fun _ _ _ h => h) (Or.inr ⟨by rfl, rfl⟩) (by assumption) ?_
          simp only [Act.put, List.getElem_toArray, List.getElem_cons_zero, List.getElem_cons_succ, List.setIfInBounds_toArray, List.set_cons_zero, List.set_cons_succ]
          refine wpAnyH_take (i := 17) (v := undef) rfl (by kernel_rfl) (by kernel_rfl) (by kernel_rfl) (fun _ _ _ h => h) (Or.inr ⟨by rfl, rfl⟩) (by assumption) ?_
          simp only [Act.put, List.getElem_toArray, List.getElem_cons_zero, List.getElem_cons_succ, List.setIfInBounds_toArray, List.set_cons_zero, List.set_cons_succ]
          refine wpAnyH_take (i := 18) (v := undef) rfl (by kernel_rfl) (by kernel_rfl) (by kernel_rfl) (fun _ _ _ h => h) (Or.inr ⟨by rfl, rfl⟩) (by assumption) ?_
          simp only [Act.put, List.getElem_toArray, List.getElem_cons_zero, List.getElem_cons_succ, List.setIfInBounds_toArray, List.set_cons_zero, List.set_cons_succ]
          refine wpAnyH_take (i := 19) (v := undef) rfl (by kernel_rfl) (by kernel_rfl) (by kernel_rfl) (fun _ _ _ h => h) (Or.inr ⟨by rfl, rfl⟩) (by assumption) ?_
          simp only [Act.put, List.getElem_toArray, List.getElem_cons_zero, List.getElem_cons_succ, List.setIfInBounds_toArray, List.set_cons_zero, List.set_cons_succ]
          refine wpAnyH_take (i := 20) (v := ?_) rfl (by kernel_rfl) (by kernel_rfl) (by kernel_rfl) (fun _ _ _ h => h) (Or.inl ⟨by rfl, ?_⟩) (by assumption) ?_
          rotate_left
          · (intro w hSw; (try dsimp only at hSw); first | (go_simp; done) | (go_simp; with_reducible rfl))
          simp only [Act.put, List.getElem_toArray, List.getElem_cons_zero, List.getElem_cons_succ, List.setIfInBounds_toArray, List.set_cons_zero, List.set_cons_succ]
          refine wpAnyH_take (i := 21) (v := ?_) rfl (by kernel_rfl) (by kernel_rfl) (by kernel_rfl) (fun _ _ _ h => h) (Or.inl ⟨by rfl, ?_⟩) (by assumption) ?_
          rotate_left
          · (intro w hSw; (try dsimp only at hSw); first | (go_simp; done) | (go_simp; with_reducible rfl))
          simp only [Act.put, List.getElem_toArray, List.getElem_cons_zero, List.getElem_cons_succ, List.setIfInBounds_toArray, List.set_cons_zero, List.set_cons_succ]
          refine wpAnyH_done (by kernel_rfl) ?_ _
          clear hHeld
          go_wp2_with fail
          have D12 := drewB4 w11
          refine ⟨⟨i + 1, _, _, _, _, rfl, by omega, by go_num, by rw [E2_.out]; rfl, rfl, BX11.out.below D12 BX11.out.lt, OA11.out.below D12, OB11.out.below D12, BR11.out.below D12 BR11.out.lt, up B11.out D12 B11.out.size⟩, by simp [intOf]; omega⟩
        | true =>
          cases z6 : (er2 == 0) with
          | false =>
            have SS := Lib.hid (show w11.drew.cell? ⟨gb, 0, none⟩ = some (.int .i64 t) ∧ w11.drew.cell? ⟨rb, 2, none⟩ = some (.slice (some ⟨bb, off, none⟩) gs.length cr) from ⟨(BG11.out.below (drewB4 w11) BG11.out.lt).cell 0, (BR11.out.below (drewB4 w11) BR11.out.lt).cell 2⟩)
            refine wp_region_held_drew (S := fun W => W.cell? ⟨gb, 0, none⟩ = some (.int .i64 t) ∧ W.cell? ⟨rb, 2, none⟩ = some (.slice (some ⟨bb, off, none⟩) gs.length cr)) (by kernel_rfl) SS.out (fun hHeld => ?_)
            refine wpAnyH_take (i := 0) (v := ?_) rfl (by kernel_rfl) (by kernel_rfl) (by kernel_rfl) (fun _ _ _ h => h) (Or.inl ⟨by rfl, ?_⟩) (by assumption) ?_
            rotate_left
            · (intro w hSw; (try dsimp only at hSw); first | (go_simp; done) | (go_simp; with_reducible rfl))
            simp only [Act.put, List.getElem_toArray, List.getElem_cons_zero, List.getElem_cons_succ, List.setIfInBounds_toArray, List.set_cons_zero, List.set_cons_succ]
            refine wpAnyH_take (i := 1) (v := ?_) rfl (by kernel_rfl) (by kernel_rfl) (by kernel_rfl) (fun _ _ _ h => h) (Or.inl ⟨by rfl, ?_⟩) (by assumption) ?_
            rotate_left
            · (intro w hSw; (try dsimp only at hSw); first | (go_simp; done) | (go_simp; with_reducible rfl))
            simp only [Act.put, List.getElem_toArray, List.getElem_cons_zero, List.getElem_cons_succ, List.setIfInBounds_toArray, List.set_cons_zero, List.set_cons_succ]
            refine wpAnyH_take (i := 2) (v := ?_) rfl (by kernel_rfl) (by kernel_rfl) (by kernel_rfl) (fun _ _ _ h => h) (Or.inl ⟨by rfl, ?_⟩) (by assumption) ?_
            rotate_left
            · (intro w hSw; (try dsimp only at hSw); first | (go_simp; done) | (go_simp; with_reducible rfl))
            simp only [Act.put, List.getElem_toArray, List.getElem_cons_zero, List.getElem_cons_succ, List.setIfInBounds_toArray, List.set_cons_zero, List.set_cons_succ]
            refine wpAnyH_take (i := 3) (v := ?_) rfl (by kernel_rfl) (by kernel_rfl) (by kernel_rfl) (fun _ _ _ h => h) (Or.inl ⟨by rfl, ?_⟩) (by assumption) ?_
            rotate_left
            · (intro w hSw; (try dsimp only at hSw); first | (go_simp; done) | (go_simp; with_reducible rfl))
            simp only [Act.put, List.getElem_toArray, List.getElem_cons_zero, List.getElem_cons_succ, List.setIfInBounds_toArray, List.set_cons_zero, List.set_cons_succ]
            refine wpAnyH_take (i := 4) (v := ?_) rfl (by kernel_rfl) (by kernel_rfl) (by kernel_rfl) (fun _ _ _ h => h) (Or.inl ⟨by rfl, ?_⟩) (by assumption) ?_
            rotate_left
            · (intro w hSw; (try dsimp only at hSw); first | (go_simp; done) | (go_simp; with_reducible rfl))
            simp only [Act.put, List.getElem_toArray, List.getElem_cons_zero, List.getElem_cons_succ, List.setIfInBounds_toArray, List.set_cons_zero, List.set_cons_succ]
            refine wpAnyH_take (i := 5) (v := ?_) rfl (by kernel_rfl) (by kernel_rfl) (by kernel_rfl) (fun _ _ _ h => h) (Or.inl ⟨by rfl, ?_⟩) (by assumption) ?_
            rotate_left
            · (intro w hSw; (try dsimp only at hSw); first | (go_simp; done) | (go_simp; with_reducible rfl))
            simp only [Act.put, List.getElem_toArray, List.getElem_cons_zero, List.getElem_cons_succ, List.setIfInBounds_toArray, List.set_cons_zero, List.set_cons_succ]
            refine wpAnyH_take (i := 6) (v := undef) rfl (by kernel_rfl) (by kernel_rfl) (by kernel_rfl) (fun _ _ _ h => h) (Or.inr ⟨by rfl, rfl⟩) (by assumption) ?_
            simp only [Act.put, List.getElem_toArray, List.getElem_cons_zero, List.getElem_cons_succ, List.setIfInBounds_toArray, List.set_cons_zero, List.set_cons_succ]
            refine wpAnyH_take (i := 7) (v := undef) rfl (by kernel_rfl) (by kernel_rfl) (by kernel_rfl) (fun _ _ _ h => h) (Or.inr ⟨by rfl, rfl⟩) (by assumption) ?_
            simp only [Act.put, List.getElem_toArray, List.getElem_cons_zero, List.getElem_cons_succ, List.setIfInBounds_toArray, List.set_cons_zero, List.set_cons_succ]
            refine wpAnyH_take (i := 8) (v := undef) rfl (by kernel_rfl) (by kernel_rfl) (by kernel_rfl) (fun _ _ _ h => h) (Or.inr ⟨by rfl, rfl⟩) (by assumption) ?_
            simp only [Act.put, List.getElem_toArray, List.getElem_cons_zero, List.getElem_cons_succ, List.setIfInBounds_toArray, List.set_cons_zero, List.set_cons_succ]
            refine wpAnyH_take (i := 9) (v := undef) rfl (by kernel_rfl) (by kernel_rfl) (by kernel_rfl) (fun _ _ _ h => h) (Or.inr ⟨by rfl, rfl⟩) (by assumption) ?_
            simp only [Act.put, List.getElem_toArray, List.getElem_cons_zero, List.getElem_cons_succ, List.setIfInBounds_toArray, List.set_cons_zero, List.set_cons_succ]
            refine wpAnyH_take (i := 10) (v := undef) rfl (by kernel_rfl) (by kernel_rfl) (by kernel_rfl) (fun _ _ _ h => h) (Or.inr ⟨by rfl, rfl⟩) (by assumption) ?_
            simp only [Act.put, List.getElem_toArray, List.getElem_cons_zero, List.getElem_cons_succ, List.setIfInBounds_toArray, List.set_cons_zero, List.set_cons_succ]
            refine wpAnyH_take (i := 11) (v := undef) rfl (by kernel_rfl) (by kernel_rfl) (by kernel_rfl) (fun _ _ _ h => h) (Or.inr ⟨by rfl, rfl⟩) (by assumption) ?_
            simp only [Act.put, List.getElem_toArray, List.getElem_cons_zero, List.getElem_cons_succ, List.setIfInBounds_toArray, List.set_cons_zero, List.set_cons_succ]
            refine wpAnyH_take (i := 12) (v := undef) rfl (by kernel_rfl) (by kernel_rfl) (by kernel_rfl) (fun _ _ _ h => h) (Or.inr ⟨by rfl, rfl⟩) (by assumption) ?_
            simp only [Act.put, List.getElem_toArray, List.getElem_cons_zero, List.getElem_cons_succ, List.setIfInBounds_toArray, List.set_cons_zero, List.set_cons_succ]
            refine wpAnyH_take (i := 13) (v := undef) rfl (by kernel_rfl) (by kernel_rfl) (by kernel_rfl) (fun _ _ _ h => h) (Or.inr ⟨by rfl, rfl⟩) (by assumption) ?_
            simp only [Act.put, List.getElem_toArray, List.getElem_cons_zero, List.getElem_cons_succ, List.setIfInBounds_toArray, List.set_cons_zero, List.set_cons_succ]
            refine wpAnyH_take (i := 14) (v := undef) rfl (by kernel_rfl) (by kernel_rfl) (by kernel_rfl) (fun _ _ _ h => h) (Or.inr ⟨by rfl, rfl⟩) (by assumption) ?_
            simp only [Act.put, List.getElem_toArray, List.getElem_cons_zero, List.getElem_cons_succ, List.setIfInBounds_toArray, List.set_cons_zero, List.set_cons_succ]
            refine wpAnyH_take (i := 15) (v := undef) rfl (by kernel_rfl) (by kernel_rfl) (by kernel_rfl) (fun _ _ _ h => h) (Or.inr ⟨by rfl, rfl⟩) (by assumption) ?_
            simp only [Act.put, List.getElem_toArray, List.getElem_cons_zero, List.getElem_cons_succ, List.setIfInBounds_toArray, List.set_cons_zero, List.set_cons_succ]
            refine wpAnyH_take (i := 16) (v := undef) rfl (by kernel_rfl) (by kernel_rfl) (by kernel_rfl) (fun _ _ _ h => h) (Or.inr ⟨by rfl, rfl⟩) (by assumption) ?_
            simp only [Act.put, List.getElem_toArray, List.getElem_cons_zero, List.getElem_cons_succ, List.setIfInBounds_toArray, List.set_cons_zero, List.set_cons_succ]
            refine wpAnyH_take (i := 17) (v := undef) rfl (by kernel_rfl) (by kernel_rfl) (by kernel_rfl) (fun _ _ _ h => h) (Or.inr ⟨by rfl, rfl⟩) (by assumption) ?_
            simp only [Act.put, List.getElem_toArray, List.getElem_cons_zero, List.getElem_cons_succ, List.setIfInBounds_toArray, List.set_cons_zero, List.set_cons_succ]
            refine wpAnyH_take (i := 18) (v := undef) rfl (by kernel_rfl) (by kernel_rfl) (by kernel_rfl) (fun _ _ _ h => h) (Or.inr ⟨by rfl, rfl⟩) (by assumption) ?_
            simp only [Act.put, List.getElem_toArray, List.getElem_cons_zero, List.getElem_cons_succ, List.setIfInBounds_toArray, List.set_cons_zero, List.set_cons_succ]
            refine wpAnyH_take (i := 19) (v := undef) rfl (by kernel_rfl) (by kernel_rfl) (by kernel_rfl) (fun _ _ _ h => h) (Or.inr ⟨by rfl, rfl⟩) (by assumption) ?_
            simp only [Act.put, List.getElem_toArray, List.getElem_cons_zero, List.getElem_cons_succ, List.setIfInBounds_toArray, List.set_cons_zero, List.set_cons_succ]
            refine wpAnyH_take (i := 20) (v := ?_) rfl (by kernel_rfl) (by kernel_rfl) (by kernel_rfl) (fun _ _ _ h => h) (Or.inl ⟨by rfl, ?_⟩) (by assumption) ?_
            rotate_left
            · (intro w hSw; (try dsimp only at hSw); first | (go_simp; done) | (go_simp; with_reducible rfl))
            simp only [Act.put, List.getElem_toArray, List.getElem_cons_zero, List.getElem_cons_succ, List.setIfInBounds_toArray, List.set_cons_zero, List.set_cons_succ]
            refine wpAnyH_take (i := 21) (v := ?_) rfl (by kernel_rfl) (by kernel_rfl) (by kernel_rfl) (fun _ _ _ h => h) (Or.inl ⟨by rfl, ?_⟩) (by assumption) ?_
            rotate_left
            · (intro w hSw; (try dsimp only at hSw); first | (go_simp; done) | (go_simp; with_reducible rfl))
            simp only [Act.put, List.getElem_toArray, List.getElem_cons_zero, List.getElem_cons_succ, List.setIfInBounds_toArray, List.set_cons_zero, List.set_cons_succ]
            refine wpAnyH_done (by kernel_rfl) ?_ _
            clear hHeld
            go_wp2_with fail
            have D12 := drewB4 w11
            refine ⟨⟨i + 1, _, _, _, _, rfl, by omega, by go_num, by rw [E2_.out, show decide (er2 = 0) = false from z6]; rfl, rfl, BX11.out.below D12 BX11.out.lt, OA11.out.below D12, OB11.out.below D12, BR11.out.below D12 BR11.out.lt, up B11.out D12 B11.out.size⟩, by simp [intOf]; omega⟩
          | true =>
            by_cases i0 : i = 0
            · subst i0
              have SS := Lib.hid (show w11.drew.cell? ⟨gb, 0, none⟩ = some (.int .i64 t) ∧ w11.drew.cell? ⟨rb, 2, none⟩ = some (.slice (some ⟨bb, off, none⟩) gs.length cr) from ⟨(BG11.out.below (drewB4 w11) BG11.out.lt).cell 0, (BR11.out.below (drewB4 w11) BR11.out.lt).cell 2⟩)
              refine wp_region_held_drew (S := fun W => W.cell? ⟨gb, 0, none⟩ = some (.int .i64 t) ∧ W.cell? ⟨rb, 2, none⟩ = some (.slice (some ⟨bb, off, none⟩) gs.length cr)) (by kernel_rfl) SS.out (fun hHeld => ?_)
              refine wpAnyH_take (i := 0) (v := ?_) rfl (by kernel_rfl) (by kernel_rfl) (by kernel_rfl) (fun _ _ _ h => h) (Or.inl ⟨by rfl, ?_⟩) (by assumption) ?_
              rotate_left
              · (intro w hSw; (try dsimp only at hSw); first | (go_simp; done) | (go_simp; with_reducible rfl))
              simp only [Act.put, List.getElem_toArray, List.getElem_cons_zero, List.getElem_cons_succ, List.setIfInBounds_toArray, List.set_cons_zero, List.set_cons_succ]
              refine wpAnyH_take (i := 1) (v := ?_) rfl (by kernel_rfl) (by kernel_rfl) (by kernel_rfl) (fun _ _ _ h => h) (Or.inl ⟨by rfl, ?_⟩) (by assumption) ?_
              rotate_left
              · (intro w hSw; (try dsimp only at hSw); first | (go_simp; done) | (go_simp; with_reducible rfl))
              simp only [Act.put, List.getElem_toArray, List.getElem_cons_zero, List.getElem_cons_succ, List.setIfInBounds_toArray, List.set_cons_zero, List.set_cons_succ]
              refine wpAnyH_take (i := 2) (v := ?_) rfl (by kernel_rfl) (by kernel_rfl) (by kernel_rfl) (fun _ _ _ h => h) (Or.inl ⟨by rfl, ?_⟩) (by assumption) ?_
              rotate_left
              · (intro w hSw; (try dsimp only at hSw); first | (go_simp; done) | (go_simp; with_reducible rfl))
              simp only [Act.put, List.getElem_toArray, List.getElem_cons_zero, List.getElem_cons_succ, List.setIfInBounds_toArray, List.set_cons_zero, List.set_cons_succ]
              refine wpAnyH_take (i := 3) (v := ?_) rfl (by kernel_rfl) (by kernel_rfl) (by kernel_rfl) (fun _ _ _ h => h) (Or.inl ⟨by rfl, ?_⟩) (by assumption) ?_
              rotate_left
              · (intro w hSw; (try dsimp only at hSw); first | (go_simp; done) | (go_simp; with_reducible rfl))
              simp only [Act.put, List.getElem_toArray, List.getElem_cons_zero, List.getElem_cons_succ, List.setIfInBounds_toArray, List.set_cons_zero, List.set_cons_succ]
              refine wpAnyH_take (i := 4) (v := ?_) rfl (by kernel_rfl) (by kernel_rfl) (by kernel_rfl) (fun _ _ _ h => h) (Or.inl ⟨by rfl, ?_⟩) (by assumption) ?_
              rotate_left
              · (intro w hSw; (try dsimp only at hSw); first | (go_simp; done) | (go_simp; with_reducible rfl))
              simp only [Act.put, List.getElem_toArray, List.getElem_cons_zero, List.getElem_cons_succ, List.setIfInBounds_toArray, List.set_cons_zero, List.set_cons_succ]
              refine wpAnyH_take (i := 5) (v := ?_) rfl (by kernel_rfl) (by kernel_rfl) (by kernel_rfl) (fun _ _ _ h => h) (Or.inl ⟨by rfl, ?_⟩) (by assumption) ?_
              rotate_left
              · (intro w hSw; (try dsimp only at hSw); first | (go_simp; done) | (go_simp; with_reducible rfl))
              simp only [Act.put, List.getElem_toArray, List.getElem_cons_zero, List.getElem_cons_succ, List.setIfInBounds_toArray, List.set_cons_zero, List.set_cons_succ]
              refine wpAnyH_take (i := 6) (v := ?_) rfl (by kernel_rfl) (by kernel_rfl) (by kernel_rfl) (fun _ _ _ h => h) (Or.inl ⟨by rfl, ?_⟩) (by assumption) ?_
              rotate_left
              · (intro w hSw; (try dsimp only at hSw); first | (go_simp; done) | (go_simp; with_reducible rfl))
              simp only [Act.put, List.getElem_toArray, List.getElem_cons_zero, List.getElem_cons_succ, List.setIfInBounds_toArray, List.set_cons_zero, List.set_cons_succ]
              refine wpAnyH_take (i := 7) (v := ?_) rfl (by kernel_rfl) (by kernel_rfl) (by kernel_rfl) (fun _ _ _ h => h) (Or.inl ⟨by rfl, ?_⟩) (by assumption) ?_
              rotate_left
              · (intro w hSw; (try dsimp only at hSw); first | (go_simp; done) | (go_simp; with_reducible rfl))
              simp only [Act.put, List.getElem_toArray, List.getElem_cons_zero, List.getElem_cons_succ, List.setIfInBounds_toArray, List.set_cons_zero, List.set_cons_succ]
              refine wpAnyH_take (i := 8) (v := ?_) rfl (by kernel_rfl) (by kernel_rfl) (by kernel_rfl) (fun _ _ _ h => h) (Or.inl ⟨by rfl, ?_⟩) (by assumption) ?_
              rotate_left
              · (intro w hSw; (try dsimp only at hSw); first | (go_simp; done) | (go_simp; with_reducible rfl))
              simp only [Act.put, List.getElem_toArray, List.getElem_cons_zero, List.getElem_cons_succ, List.setIfInBounds_toArray, List.set_cons_zero, List.set_cons_succ]
              refine wpAnyH_take (i := 9) (v := undef) rfl (by kernel_rfl) (by kernel_rfl) (by kernel_rfl) (fun _ _ _ h => h) (Or.inr ⟨by rfl, rfl⟩) (by assumption) ?_
              simp only [Act.put, List.getElem_toArray, List.getElem_cons_zero, List.getElem_cons_succ, List.setIfInBounds_toArray, List.set_cons_zero, List.set_cons_succ]
              refine wpAnyH_take (i := 10) (v := undef) rfl (by kernel_rfl) (by kernel_rfl) (by kernel_rfl) (fun _ _ _ h => h) (Or.inr ⟨by rfl, rfl⟩) (by assumption) ?_
              simp only [Act.put, List.getElem_toArray, List.getElem_cons_zero, List.getElem_cons_succ, List.setIfInBounds_toArray, List.set_cons_zero, List.set_cons_succ]
              refine wpAnyH_take (i := 11) (v := undef) rfl (by kernel_rfl) (by kernel_rfl) (by kernel_rfl) (fun _ _ _ h => h) (Or.inr ⟨by rfl, rfl⟩) (by assumption) ?_
              simp only [Act.put, List.getElem_toArray, List.getElem_cons_zero, List.getElem_cons_succ, List.setIfInBounds_toArray, List.set_cons_zero, List.set_cons_succ]
              refine wpAnyH_take (i := 12) (v := undef) rfl (by kernel_rfl) (by kernel_rfl) (by kernel_rfl) (fun _ _ _ h => h) (Or.inr ⟨by rfl, rfl⟩) (by assumption) ?_
              simp only [Act.put, List.getElem_toArray, List.getElem_cons_zero, List.getElem_cons_succ, List.setIfInBounds_toArray, List.set_cons_zero, List.set_cons_succ]
              refine wpAnyH_take (i := 13) (v := undef) rfl (by kernel_rfl) (by kernel_rfl) (by kernel_rfl) (fun _ _ _ h => h) (Or.inr ⟨by rfl, rfl⟩) (by assumption) ?_
              simp only [Act.put, List.getElem_toArray, List.getElem_cons_zero, List.getElem_cons_succ, List.setIfInBounds_toArray, List.set_cons_zero, List.set_cons_succ]
              refine wpAnyH_take (i := 14) (v := undef) rfl (by kernel_rfl) (by kernel_rfl) (by kernel_rfl) (fun _ _ _ h => h) (Or.inr ⟨by rfl, rfl⟩) (by assumption) ?_
              simp only [Act.put, List.getElem_toArray, List.getElem_cons_zero, List.getElem_cons_succ, List.setIfInBounds_toArray, List.set_cons_zero, List.set_cons_succ]
              refine wpAnyH_take (i := 15) (v := undef) rfl (by kernel_rfl) (by kernel_rfl) (by kernel_rfl) (fun _ _ _ h => h) (Or.inr ⟨by rfl, rfl⟩) (by assumption) ?_
              simp only [Act.put, List.getElem_toArray, List.getElem_cons_zero, List.getElem_cons_succ, List.setIfInBounds_toArray, List.set_cons_zero, List.set_cons_succ]
              refine wpAnyH_take (i := 16) (v := undef) rfl (by kernel_rfl) (by kernel_rfl) (by kernel_rfl) (fun _ _ _ h => h) (Or.inr ⟨by rfl, rfl⟩) (by assumption) ?_
              simp only [Act.put, List.getElem_toArray, List.getElem_cons_zero, List.getElem_cons_succ, List.setIfInBounds_toArray, List.set_cons_zero, List.set_cons_succ]
              refine wpAnyH_take (i := 17) (v := undef) rfl (by kernel_rfl) (by kernel_rfl) (by kernel_rfl) (fun _ _ _ h => h) (Or.inr ⟨by rfl, rfl⟩) (by assumption) ?_
              simp only [Act.put, List.getElem_toArray, List.getElem_cons_zero, List.getElem_cons_succ, List.setIfInBounds_toArray, List.set_cons_zero, List.set_cons_succ]
              refine wpAnyH_take (i := 18) (v := undef) rfl (by kernel_rfl) (by kernel_rfl) (by kernel_rfl) (fun _ _ _ h => h) (Or.inr ⟨by rfl, rfl⟩) (by assumption) ?_
              simp only [Act.put, List.getElem_toArray, List.getElem_cons_zero, List.getElem_cons_succ, List.setIfInBounds_toArray, List.set_cons_zero, List.set_cons_succ]
              refine wpAnyH_take (i := 19) (v := ?_) rfl (by kernel_rfl) (by kernel_rfl) (by kernel_rfl) (fun _ _ _ h => h) (Or.inl ⟨by rfl, ?_⟩) (by assumption) ?_
              rotate_left
              · (intro w hSw; (try dsimp only at hSw); first | (go_simp; done) | (go_simp; with_reducible rfl))
              simp only [Act.put, List.getElem_toArray, List.getElem_cons_zero, List.getElem_cons_succ, List.setIfInBounds_toArray, List.set_cons_zero, List.set_cons_succ]
              refine wpAnyH_take (i := 20) (v := ?_) rfl (by kernel_rfl) (by kernel_rfl) (by kernel_rfl) (fun _ _ _ h => h) (Or.inl ⟨by rfl, ?_⟩) (by assumption) ?_
              rotate_left
              · (intro w hSw; (try dsimp only at hSw); first | (go_simp; done) | (go_simp; with_reducible rfl))
              simp only [Act.put, List.getElem_toArray, List.getElem_cons_zero, List.getElem_cons_succ, List.setIfInBounds_toArray, List.set_cons_zero, List.set_cons_succ]
              refine wpAnyH_take (i := 21) (v := ?_) rfl (by kernel_rfl) (by kernel_rfl) (by kernel_rfl) (fun _ _ _ h => h) (Or.inl ⟨by rfl, ?_⟩) (by assumption) ?_
              rotate_left
              · (intro w hSw; (try dsimp only at hSw); first | (go_simp; done) | (go_simp; with_reducible rfl))
              simp only [Act.put, List.getElem_toArray, List.getElem_cons_zero, List.getElem_cons_succ, List.setIfInBounds_toArray, List.set_cons_zero, List.set_cons_succ]
              refine wpAnyH_done (by kernel_rfl) ?_ _
              clear hHeld
              go_wp2_with fail
              have D12 := drewB4 w11
              refine ⟨⟨0 + 1, _, _, _, _, rfl, by omega, by go_num, by rw [E2_.out, show decide (er2 = 0) = true from z6]; rfl, rfl, BX11.out.below D12 BX11.out.lt, OA11.out.below D12, OB11.out.below D12, BR11.out.below D12 BR11.out.lt, up B11.out D12 B11.out.size⟩, by simp [intOf]; omega⟩
            · obtain ⟨j, rfl⟩ : ∃ j, i = j + 1 := ⟨i - 1, by omega⟩
              clear i0
              have LKp := lay2c (LG.out.below (up B11.out (drewB4 w11) B11.out.size)) (show j < gs.length by omega)
              have edp : gs.getD (j + 1 - 1) (0, 0) = gs[j] := by simp [List.getD, (show j < gs.length by omega)]
              rw [edp] at E2_
              generalize gs[j] = dp at *
              obtain ⟨pv, pq⟩ := dp
              dsimp only at LKp
              have SS := Lib.hid (show w11.drew.cell? ⟨gb, 0, none⟩ = some (.int .i64 t) ∧ w11.drew.cell? ⟨rb, 2, none⟩ = some (.slice (some ⟨bb, off, none⟩) gs.length cr) ∧ w11.drew.cell? ⟨bb, off + j * 2, none⟩ = some (.int .i64 pv) from ⟨(BG11.out.below (drewB4 w11) BG11.out.lt).cell 0, (BR11.out.below (drewB4 w11) BR11.out.lt).cell 2, LKp.1⟩)
              refine wp_region_held_drew (S := fun W => W.cell? ⟨gb, 0, none⟩ = some (.int .i64 t) ∧ W.cell? ⟨rb, 2, none⟩ = some (.slice (some ⟨bb, off, none⟩) gs.length cr) ∧ W.cell? ⟨bb, off + j * 2, none⟩ = some (.int .i64 pv)) (by kernel_rfl) SS.out (fun hHeld => ?_)
              have z7 : (((j + 1 : Nat) : Int) == 0) = false := by simp; omega
              have z8 : ((j : Int) + 1 == 0) = false := by simp; omega
              have w1_ : IntKind.i64.wrap (((j + 1 : Nat) : Int) - 1) = (j : Int) := (IntWalk.i64_in _ (by omega)).trans (by omega)
              have w2_ : IntKind.i64.wrap ((j : Int) + 1 - 1) = (j : Int) := (IntWalk.i64_in _ (by omega)).trans (by omega)
              have w3_ : IntKind.i64.wrap (j : Int) = (j : Int) := IntWalk.i64_in _ (by omega)
              have hjn : (j : Int) < (gs.length : Int) := by omega
              have hjn2 : j < gs.length := by omega
              have jz : decide ((j : Int) < 0) = false := decide_eq_false (by omega)
              refine wpAnyH_take (i := 0) (v := ?_) rfl (by kernel_rfl) (by kernel_rfl) (by kernel_rfl) (fun _ _ _ h => h) (Or.inl ⟨by rfl, ?_⟩) (by assumption) ?_
              rotate_left
              · (intro w hSw; (try dsimp only at hSw); first | (go_simp; done) | (go_simp; with_reducible rfl))
              simp only [Act.put, List.getElem_toArray, List.getElem_cons_zero, List.getElem_cons_succ, List.setIfInBounds_toArray, List.set_cons_zero, List.set_cons_succ]
              refine wpAnyH_take (i := 1) (v := ?_) rfl (by kernel_rfl) (by kernel_rfl) (by kernel_rfl) (fun _ _ _ h => h) (Or.inl ⟨by rfl, ?_⟩) (by assumption) ?_
              rotate_left
              · (intro w hSw; (try dsimp only at hSw); first | (go_simp; done) | (go_simp; with_reducible rfl))
              simp only [Act.put, List.getElem_toArray, List.getElem_cons_zero, List.getElem_cons_succ, List.setIfInBounds_toArray, List.set_cons_zero, List.set_cons_succ]
              refine wpAnyH_take (i := 2) (v := ?_) rfl (by kernel_rfl) (by kernel_rfl) (by kernel_rfl) (fun _ _ _ h => h) (Or.inl ⟨by rfl, ?_⟩) (by assumption) ?_
              rotate_left
              · (intro w hSw; (try dsimp only at hSw); first | (go_simp; done) | (go_simp; with_reducible rfl))
              simp only [Act.put, List.getElem_toArray, List.getElem_cons_zero, List.getElem_cons_succ, List.setIfInBounds_toArray, List.set_cons_zero, List.set_cons_succ]
              refine wpAnyH_take (i := 3) (v := ?_) rfl (by kernel_rfl) (by kernel_rfl) (by kernel_rfl) (fun _ _ _ h => h) (Or.inl ⟨by rfl, ?_⟩) (by assumption) ?_
              rotate_left
              · (intro w hSw; (try dsimp only at hSw); first | (go_simp; done) | (go_simp; with_reducible rfl))
              simp only [Act.put, List.getElem_toArray, List.getElem_cons_zero, List.getElem_cons_succ, List.setIfInBounds_toArray, List.set_cons_zero, List.set_cons_succ]
              refine wpAnyH_take (i := 4) (v := ?_) rfl (by kernel_rfl) (by kernel_rfl) (by kernel_rfl) (fun _ _ _ h => h) (Or.inl ⟨by rfl, ?_⟩) (by assumption) ?_
              rotate_left
              · (intro w hSw; (try dsimp only at hSw); first | (go_simp; done) | (go_simp; with_reducible rfl))
              simp only [Act.put, List.getElem_toArray, List.getElem_cons_zero, List.getElem_cons_succ, List.setIfInBounds_toArray, List.set_cons_zero, List.set_cons_succ]
              refine wpAnyH_take (i := 5) (v := ?_) rfl (by kernel_rfl) (by kernel_rfl) (by kernel_rfl) (fun _ _ _ h => h) (Or.inl ⟨by rfl, ?_⟩) (by assumption) ?_
              rotate_left
              · (intro w hSw; (try dsimp only at hSw); first | (go_simp; done) | (go_simp; with_reducible rfl))
              simp only [Act.put, List.getElem_toArray, List.getElem_cons_zero, List.getElem_cons_succ, List.setIfInBounds_toArray, List.set_cons_zero, List.set_cons_succ]
              refine wpAnyH_take (i := 6) (v := ?_) rfl (by kernel_rfl) (by kernel_rfl) (by kernel_rfl) (fun _ _ _ h => h) (Or.inl ⟨by rfl, ?_⟩) (by assumption) ?_
              rotate_left
              · (intro w hSw; (try dsimp only at hSw); first | (go_simp; done) | (go_simp; with_reducible rfl))
              simp only [Act.put, List.getElem_toArray, List.getElem_cons_zero, List.getElem_cons_succ, List.setIfInBounds_toArray, List.set_cons_zero, List.set_cons_succ]
              refine wpAnyH_take (i := 7) (v := ?_) rfl (by kernel_rfl) (by kernel_rfl) (by kernel_rfl) (fun _ _ _ h => h) (Or.inl ⟨by rfl, ?_⟩) (by assumption) ?_
              rotate_left
              · (intro w hSw; (try dsimp only at hSw); first | (go_simp; done) | (go_simp; with_reducible rfl))
              simp only [Act.put, List.getElem_toArray, List.getElem_cons_zero, List.getElem_cons_succ, List.setIfInBounds_toArray, List.set_cons_zero, List.set_cons_succ]
              refine wpAnyH_take (i := 8) (v := ?_) rfl (by kernel_rfl) (by kernel_rfl) (by kernel_rfl) (fun _ _ _ h => h) (Or.inl ⟨by rfl, ?_⟩) (by assumption) ?_
              rotate_left
              · (intro w hSw; (try dsimp only at hSw); first | (go_simp; done) | (go_simp; with_reducible rfl))
              simp only [Act.put, List.getElem_toArray, List.getElem_cons_zero, List.getElem_cons_succ, List.setIfInBounds_toArray, List.set_cons_zero, List.set_cons_succ]
              refine wpAnyH_take (i := 9) (v := ?_) rfl (by kernel_rfl) (by kernel_rfl) (by kernel_rfl) (fun _ _ _ h => h) (Or.inl ⟨by rfl, ?_⟩) (by assumption) ?_
              rotate_left
              · (intro w hSw; (try dsimp only at hSw); first | (go_simp; done) | (go_simp; with_reducible rfl))
              simp only [Act.put, List.getElem_toArray, List.getElem_cons_zero, List.getElem_cons_succ, List.setIfInBounds_toArray, List.set_cons_zero, List.set_cons_succ]
              refine wpAnyH_take (i := 10) (v := ?_) rfl (by kernel_rfl) (by kernel_rfl) (by kernel_rfl) (fun _ _ _ h => h) (Or.inl ⟨by rfl, ?_⟩) (by assumption) ?_
              rotate_left
              · (intro w hSw; (try dsimp only at hSw); first | (go_simp; done) | (go_simp; with_reducible rfl))
              simp only [Act.put, List.getElem_toArray, List.getElem_cons_zero, List.getElem_cons_succ, List.setIfInBounds_toArray, List.set_cons_zero, List.set_cons_succ]
              refine wpAnyH_take (i := 11) (v := ?_) rfl (by kernel_rfl) (by kernel_rfl) (by kernel_rfl) (fun _ _ _ h => h) (Or.inl ⟨by rfl, ?_⟩) (by assumption) ?_
              rotate_left
              · (intro w hSw; (try dsimp only at hSw); first | (go_simp; done) | (go_simp; with_reducible rfl))
              simp only [Act.put, List.getElem_toArray, List.getElem_cons_zero, List.getElem_cons_succ, List.setIfInBounds_toArray, List.set_cons_zero, List.set_cons_succ]
              refine wpAnyH_take (i := 12) (v := ?_) rfl (by kernel_rfl) (by kernel_rfl) (by kernel_rfl) (fun _ _ _ h => h) (Or.inl ⟨by rfl, ?_⟩) (by assumption) ?_
              rotate_left
              · (intro w hSw; (try dsimp only at hSw); first | (go_simp; done) | (go_simp; with_reducible rfl))
              simp only [Act.put, List.getElem_toArray, List.getElem_cons_zero, List.getElem_cons_succ, List.setIfInBounds_toArray, List.set_cons_zero, List.set_cons_succ]
              refine wpAnyH_take (i := 13) (v := ?_) rfl (by kernel_rfl) (by kernel_rfl) (by kernel_rfl) (fun _ _ _ h => h) (Or.inl ⟨by rfl, ?_⟩) (by assumption) ?_
              rotate_left
              · (intro w hSw; (try dsimp only at hSw); first | (go_simp; done) | (go_simp; with_reducible rfl))
              simp only [Act.put, List.getElem_toArray, List.getElem_cons_zero, List.getElem_cons_succ, List.setIfInBounds_toArray, List.set_cons_zero, List.set_cons_succ]
              refine wpAnyH_take (i := 14) (v := ?_) rfl (by kernel_rfl) (by kernel_rfl) (by kernel_rfl) (fun _ _ _ h => h) (Or.inl ⟨by rfl, ?_⟩) (by assumption) ?_
              rotate_left
              · (intro w hSw; (try dsimp only at hSw); first | (go_simp; done) | (go_simp; with_reducible rfl))
              simp only [Act.put, List.getElem_toArray, List.getElem_cons_zero, List.getElem_cons_succ, List.setIfInBounds_toArray, List.set_cons_zero, List.set_cons_succ]
              refine wpAnyH_take (i := 15) (v := ?_) rfl (by kernel_rfl) (by kernel_rfl) (by kernel_rfl) (fun _ _ _ h => h) (Or.inl ⟨by rfl, ?_⟩) (by assumption) ?_
              rotate_left
              · (intro w hSw; (try dsimp only at hSw); first | (go_simp; done) | (go_simp; with_reducible rfl))
              simp only [Act.put, List.getElem_toArray, List.getElem_cons_zero, List.getElem_cons_succ, List.setIfInBounds_toArray, List.set_cons_zero, List.set_cons_succ]
              refine wpAnyH_take (i := 16) (v := ?_) rfl (by kernel_rfl) (by kernel_rfl) (by kernel_rfl) (fun _ _ _ h => h) (Or.inl ⟨by rfl, ?_⟩) (by assumption) ?_
              rotate_left
              · (intro w hSw; (try dsimp only at hSw); first | (go_simp; done) | (go_simp; with_reducible rfl))
              simp only [Act.put, List.getElem_toArray, List.getElem_cons_zero, List.getElem_cons_succ, List.setIfInBounds_toArray, List.set_cons_zero, List.set_cons_succ]
              refine wpAnyH_take (i := 17) (v := ?_) rfl (by kernel_rfl) (by kernel_rfl) (by kernel_rfl) (fun _ _ _ h => h) (Or.inl ⟨by rfl, ?_⟩) (by assumption) ?_
              rotate_left
              · (intro w hSw; (try dsimp only at hSw); first | (go_simp; done) | (go_simp; with_reducible rfl))
              simp only [Act.put, List.getElem_toArray, List.getElem_cons_zero, List.getElem_cons_succ, List.setIfInBounds_toArray, List.set_cons_zero, List.set_cons_succ]
              refine wpAnyH_take (i := 18) (v := ?_) rfl (by kernel_rfl) (by kernel_rfl) (by kernel_rfl) (fun _ _ _ h => h) (Or.inl ⟨by rfl, ?_⟩) (by assumption) ?_
              rotate_left
              · (intro w hSw; (try dsimp only at hSw); first | (go_simp; done) | (go_simp; with_reducible rfl))
              simp only [Act.put, List.getElem_toArray, List.getElem_cons_zero, List.getElem_cons_succ, List.setIfInBounds_toArray, List.set_cons_zero, List.set_cons_succ]
              refine wpAnyH_take (i := 19) (v := ?_) rfl (by kernel_rfl) (by kernel_rfl) (by kernel_rfl) (fun _ _ _ h => h) (Or.inl ⟨by rfl, ?_⟩) (by assumption) ?_
              rotate_left
              · (intro w hSw; (try dsimp only at hSw); first | (go_simp; done) | (go_simp; with_reducible rfl))
              simp only [Act.put, List.getElem_toArray, List.getElem_cons_zero, List.getElem_cons_succ, List.setIfInBounds_toArray, List.set_cons_zero, List.set_cons_succ]
              refine wpAnyH_take (i := 20) (v := ?_) rfl (by kernel_rfl) (by kernel_rfl) (by kernel_rfl) (fun _ _ _ h => h) (Or.inl ⟨by rfl, ?_⟩) (by assumption) ?_
              rotate_left
              · (intro w hSw; (try dsimp only at hSw); first | (go_simp; done) | (go_simp; with_reducible rfl))
              simp only [Act.put, List.getElem_toArray, List.getElem_cons_zero, List.getElem_cons_succ, List.setIfInBounds_toArray, List.set_cons_zero, List.set_cons_succ]
              refine wpAnyH_take (i := 21) (v := ?_) rfl (by kernel_rfl) (by kernel_rfl) (by kernel_rfl) (fun _ _ _ h => h) (Or.inl ⟨by rfl, ?_⟩) (by assumption) ?_
              rotate_left
              · (intro w hSw; (try dsimp only at hSw); first | (go_simp; done) | (go_simp; with_reducible rfl))
              simp only [Act.put, List.getElem_toArray, List.getElem_cons_zero, List.getElem_cons_succ, List.setIfInBounds_toArray, List.set_cons_zero, List.set_cons_succ]
              refine wpAnyH_done (by kernel_rfl) ?_ _
              clear hHeld
              go_wp2_with fail
              have D12 := drewB4 w11
              refine ⟨⟨j + 1 + 1, _, _, _, _, rfl, by omega, by go_num, by rw [E2_.out, show decide (er2 = 0) = true from z6, decide_eq_false (show ¬ (j + 1 = 0) by omega)]; simp, rfl, BX11.out.below D12 BX11.out.lt, OA11.out.below D12, OB11.out.below D12, BR11.out.below D12 BR11.out.lt, up B11.out D12 B11.out.size⟩, by simp [intOf]; omega⟩
      · obtain rfl : i = gs.length := by omega
        have LB := lput_len h gs l2 true gs.length
        go_wp2_with fail
        refine ⟨⟨k + 1, _, _, _, rfl, by omega, by go_num, by rw [LS2.out], by rw [LS2.out], BX8.out, by rw [LS2.out]; exact OT8.out, by rw [LS2.out]; exact OG8.out, ?_, ?_, AK2.out, B8.out⟩, by simp [intOf]; omega⟩
        · have h2 : l2.1.length ≤ T.length + 1 := LLH.out.1
          rw [LS2.out]
          show (lput h gs l2 true gs.length).1.1.length ≤ k + 1
          rw [LB.1]
          omega
        · have h1 : (lput h gs l2 true gs.length).1.2.length ≤ l2.2.length + gs.length := LB.2
          have h2 : l2.2.length = G.length := congrArg List.length LLH.out.2
          rw [LS2.out]
          show (lput h gs l2 true gs.length).1.2.length ≤ 30 * (k + 1)
          omega
  · obtain rfl : k = D.length := by omega
    have HALL := Lib.hid (show ∀ d, d ∈ D → d.2.length ≤ 30 from fun d hd => by
      obtain ⟨j, hj, e⟩ := List.getElem_of_mem hd
      rw [← e]
      exact AL.out j hj hj)
    have both := both_rows D (fun d hd => ⟨(HR.out.each d hd).2.2.1, (HR.out.each d hd).2.2.2⟩) D.length (Nat.le_refl _)
    have RST := Lib.hid (Restore_any A c D w2 (HR.out.below B2.out) hm HALL.out)
    generalize hst : lfold (D.take D.length) = st at *
    rw [List.take_length] at both
    obtain ⟨⟨T, G⟩, okb, la⟩ := st
    dsimp only at lT lG both
    clear hst AL HALL
    obtain ⟨At, ct, rfl, -⟩ := rk.Own.open_ OT2.out
    obtain ⟨Ag, cg, rfl, -⟩ := rk.Own.open_ OG2.out
    cases hrf : rfold D with
    | none =>
      rw [hrf] at both
      obtain rfl : okb = false := both
      have HRF := Lib.hid hrf
      clear hrf
      go_wp2_with fail
      refine RST.out.mono ?_
      rintro e w3 ⟨hA, hN, hb3⟩
      obtain rfl := hN HRF.out
      have B3 := Lib.hid (up B2.out hb3 B2.out.size)
      clear hA hN hb3 RST
      go_wp2_with fail
      refine (AW.out _).mono ?_
      rintro e w4 ⟨rfl, hba⟩
      have BA := Lib.hid (up B3.out hba B3.out.size)
      clear hba
      go_wp2_with fail
      go_ret
      exact ⟨rfl, BA.out⟩
    | some sl =>
      obtain ⟨s2, la2, tt⟩ := sl
      rw [hrf] at both
      obtain ⟨q1, q2, q3, q4, q5⟩ := both
      subst q1 q4 q5
      have RR := Lib.hid q2
      have GD := Lib.hid q3
      have HRF := Lib.hid hrf
      clear q2 q3 hrf
      go_wp2_with fail
      refine RST.out.mono ?_
      rintro e w3 ⟨hA, hN, hb3⟩
      obtain ⟨g, bs, bw, rfl, h3⟩ := hA _ _ _ HRF.out
      have X3 := Lib.hid h3
      have B3 := Lib.hid (up B2.out hb3 B2.out.size)
      have BX3 := Lib.hid (BX2.out.below hb3 BX2.out.lt)
      have OT3 := Lib.hid (rk.Own.below OT2.out hb3)
      have OG3 := Lib.hid (rk.Own.below OG2.out hb3)
      have SA := Lib.hid (fun W (h : Below w3.heap.size w3 W) => same_any At ct Ag cg (X3.out.below h) RR.out (by omega) rfl (by omega) (by omega) (rk.Own.below OT3.out h) (rk.Own.below OG3.out h))
      have x0 := BX3.out.cell 0
      have x1 := BX3.out.cell 1
      clear hA hN h3 hb3 RST BX2 OT2 OG2 B2
      go_wp2_with fail
      refine (SA.out _ (Below.refl _ _)).mono ?_
      rintro e w4 ⟨rfl, hb4⟩
      have D4 := Lib.hid hb4
      obtain ⟨nT, nG, P, M, h4, na, nb⟩ := X3.out.below hb4
      have H4 := Lib.hid h4
      have RO := Lib.hid (rows_any h4 RR.out (by omega) (by omega))
      clear h4 hb4 x0 x1
      go_wp2_with fail
      refine RO.out.mono ?_
      rintro e w5 ⟨v5, RL, rfl, hR, ho, htold, hb5⟩
      obtain ⟨A5, c5, rfl, hl5, -⟩ := ho.open_
      have D5 := Lib.hid (up D4.out hb5 D4.out.size)
      go_wp2_with fail
      have RLN := Lib.hid hR
      have TO := Lib.hid (fun m (h1 : m < RL.length) => (show ∃ h2 : m < T.length, RL[m].1 = T[m].1 ∧ RL[m].2.2.2.1 ≤ 900 from ⟨by omega, (htold m h1 (by omega)).1, by rw [(htold m h1 (by omega)).2.2.1]; exact Nat.le_trans (of_len G _) (by omega)⟩))
      have SH5 := Lib.hid (show ∀ m (h1 : m < RL.length), Shp w5 w4.heap.size RL[m].2.2.1 RL[m].2.2.2.1 from fun m h1 => by
        obtain ⟨-, -, t2, t3⟩ := htold m h1 (by omega)
        rw [t2] at t3 ⊢
        rw [← tp_len] at t3 ⊢
        exact shp_of t3)
      have OR5 := Lib.hid ho
      have B5 := Lib.hid hb5
      clear htold ho hb5 hl5 RO hR
      go_loopw [142] (fun ix wr => ∃ (j : Nat) (W : World), W = wr ∧ j ≤ RL.length ∧ ix = .int .i64 j ∧ rk.Own ER wr w4.heap.size 47 (.slice A5 RL.length c5) RL ∧ (∀ m (h1 : m < RL.length), Shp wr w4.heap.size RL[m].2.2.1 RL[m].2.2.2.1) ∧ Below w4.heap.size w4 wr) (fun ix _ => RL.length - (intOf ix).toNat)
      case atStart => exact ⟨0, _, rfl, by omega, rfl, OR5.out, SH5.out, B5.out⟩
      case round =>
      clear OR5 SH5 B5
      obtain ⟨j, w6, rfl, hj, rfl, ho, hsh, hb⟩ := hrel
      have OR6 := Lib.hid ho
      have SH6 := Lib.hid hsh
      have B6 := Lib.hid hb
      clear ho hsh hb
      by_cases hjl : j < RL.length
      · obtain ⟨b6, off6, eA, e0, e1, e2⟩ := layR (layE OR6.out) hjl
        have hjt : j < T.length := by have := RLN.out; omega
        have SHJ := Lib.hid (SH6.out j hjl)
        obtain ⟨hjT, eh, hnj⟩ := TO.out j hjl
        have HTJ := (RR.out.t T[j].1 T[j].2).2 (List.getElem_mem hjT)
        rw [← eh] at HTJ
        generalize RL[j].1 = hh at *
        generalize RL[j].2.1 = uu at *
        generalize RL[j].2.2.1 = Aj at *
        generalize RL[j].2.2.2.1 = nj at *
        generalize RL[j].2.2.2.2 = cj at *
        generalize T[j].2 = uj at *
        have HT := Lib.hid HTJ
        clear eh HTJ
        subst eA
        have hm7 := made w6 (.cells #[.int .i64 hh, .int .i64 uu, .slice Aj nj cj] 47)
        have OR7 := Lib.hid (rk.Own.below OR6.out hm7)
        have SH7 := Lib.hid (fun m (h1 : m < RL.length) => (SH6.out m h1).below hm7)
        have SJ7 := Lib.hid (SHJ.out.below hm7)
        have B7 := Lib.hid (up B6.out hm7 B6.out.size)
        have BR7 := Lib.hid (Blk.new w6 47 #[.int .i64 hh, .int .i64 uu, .slice Aj nj cj])
        clear hm7 OR6 SH6 SHJ B6
        go_upto_region 30 with fail
        generalize w6.alloc (.cells #[.int .i64 hh, .int .i64 uu, .slice Aj nj cj] 47) = w7 at *
        generalize w6.heap.size = rb at *
        clear e0 e1 e2
        have r2 := BR7.out.cell 2
        go_wp2_with fail
        clear r2
        go_loopw [149] (fun ix wr => ∃ (i : Nat) (W : World), W = wr ∧ i ≤ nj ∧ ix = .int .i64 i ∧ rk.Own ER wr w4.heap.size 47 (.slice (some ⟨b6, off6, none⟩) RL.length c5) RL ∧ (∀ m (h1 : m < RL.length), Shp wr w4.heap.size RL[m].2.2.1 RL[m].2.2.2.1) ∧ Shp wr w4.heap.size Aj nj ∧ Blk wr rb 47 #[.int .i64 hh, .int .i64 uu, .slice Aj nj cj] ∧ Below w4.heap.size w4 wr) (fun ix _ => nj - (intOf ix).toNat)
        case atStart => exact ⟨0, _, rfl, by omega, rfl, OR7.out, SH7.out, SJ7.out, BR7.out, B7.out⟩
        case round =>
        clear OR7 SH7 SJ7 BR7 B7
        obtain ⟨i, w8, rfl, hi, rfl, ho, hsh, hsj, hbr, hb⟩ := hrel
        have OR8 := Lib.hid ho
        have SH8 := Lib.hid hsh
        have SJ8 := Lib.hid hsj
        have BR8 := Lib.hid hbr
        have B8 := Lib.hid hb
        clear ho hsh hsj hbr hb
        by_cases hil : i < nj
        · obtain ⟨gg, og, cs, rfl, hg1, hg2, hg3⟩ := SJ8.out (by omega)
          have hlt := hg3 i hil
          have f0 := hg2.free (og + i * 2 + 1)
          have y0 : w8.cell? ⟨gg, og + i * 2 + 1, none⟩ = some (cs[og + i * 2 + 1]'hlt) := by rw [hg2.cell]; exact Array.getElem?_eq_getElem hlt
          have hne : rb ≠ gg := ne_of_ty BR8.out hg2 (by decide)
          have W9 := Lib.hid (show _ ∧ _ ∧ _ ∧ _ ∧ _ from ⟨rk.Own.keep (w' := w8.setCell ⟨gg, og + i * 2 + 1, none⟩ (.int .i64 9)) OR8.out (fun k hk => by
            obtain ⟨_, _, cs2, h1⟩ := rk.Own.lt' OR8.out k hk
            exact Below.heap_setCell _ ⟨gg, og + i * 2 + 1, none⟩ _ k (ne_of_ty h1 hg2 (by decide))), (fun m (h1 : m < RL.length) => (SH8.out m h1).set (j := og + i * 2 + 1) hg2 (.int .i64 9)), SJ8.out.set (j := og + i * 2 + 1) hg2 (.int .i64 9), BR8.out.far (p := ⟨gg, og + i * 2 + 1, none⟩) hne (.int .i64 9), B8.out.setCell (p := ⟨gg, og + i * 2 + 1, none⟩) hg1 (.int .i64 9)⟩)
          have r2 := BR8.out.cell 2
          have iz : decide ((i : Int) < 0) = false := decide_eq_false (by omega)
          have hin : (i : Int) < (nj : Int) := by omega
          generalize cs[og + i * 2 + 1] = vv at *
          clear hg1 hg2 hg3 hlt hne
          go_upto_region 34 with fail
          generalize w8.setCell ⟨gg, og + i * 2 + 1, none⟩ (.int .i64 9) = w9 at *
          clear f0 y0 r2 iz hin
          go_wp2_with fail
          refine ⟨⟨i + 1, _, rfl, by omega, by go_num, W9.out.1, W9.out.2.1, W9.out.2.2.1, W9.out.2.2.2.1, W9.out.2.2.2.2⟩, by simp [intOf]; omega⟩
        · obtain rfl : i = nj := by omega
          have r0 := BR8.out.cell 0
          have GO := Lib.hid (goods_some hh uj (H4.out.below B8.out) HT.out)
          go_wp2_with fail
          refine GO.out.mono ?_
          rintro e w9 ⟨v9, ts, rfl, -, hts, ho9, hb9⟩
          have O9 := Lib.hid ho9
          obtain ⟨A9, c9, e9, -⟩ := ho9.open_
          have hgl : (gl s2 ts).length ≤ 16 := by unfold gl; rw [List.length_map]; exact hts
          subst e9
          have D9 := Lib.hid hb9
          clear ho9 hb9 GO r0
          generalize gl s2 ts = X9 at *
          go_wp2_with fail
          go_loopw [163] (fun ix wr => ∃ (i2 : Nat) (W : World), W = wr ∧ i2 ≤ X9.length ∧ ix = .int .i64 i2 ∧ Below w8.heap.size w8 wr ∧ Below w9.heap.size w9 wr) (fun ix _ => X9.length - (intOf ix).toNat)
          case atStart => exact ⟨0, _, rfl, by omega, rfl, D9.out, Below.refl _ _⟩
          case round =>
          obtain ⟨i2, w10, rfl, hi2, rfl, hb10, hb11⟩ := hrel
          have D10 := Lib.hid hb10
          have D11 := Lib.hid hb11
          clear hb10
          by_cases hil : i2 < X9.length
          · obtain ⟨b9, off9, eA9, e0, e1⟩ := lay2 ((layE O9.out).below hb11) hil
            subst eA9
            generalize X9[i2] = xx at *
            obtain ⟨x1_, x2_⟩ := xx
            dsimp only at e0 e1
            have hm12 := made w10 (.cells #[.int .i64 x1_, .int .i64 x2_] 56)
            have BZ := Blk.new w10 56 #[.int .i64 x1_, .int .i64 x2_]
            have y1 := BZ.cell 1
            have f1 := BZ.free 1
            have hm13 := made w10 (.cells #[.int .i64 x1_, .int .i64 9] 56)
            have D12 := Lib.hid (up D10.out hm13 D10.out.size)
            have D13 := Lib.hid (up D11.out hm13 D11.out.size)
            clear hm13
            clear hm12 BZ hb11
            go_wp2_with fail
            refine ⟨⟨i2 + 1, _, rfl, by omega, by go_num, D12.out, D13.out⟩, by simp [intOf]; omega⟩
          · obtain rfl : i2 = X9.length := by omega
            clear hb11
            go_wp2_with fail
            refine ⟨⟨j + 1, _, rfl, by omega, by go_num, rk.Own.below OR8.out D10.out, fun m h1 => (SH8.out m h1).below D10.out, up B8.out D10.out B8.out.size⟩, by simp [intOf]; omega⟩
      · obtain rfl : j = RL.length := by omega
        have z1 : RL.length ≤ T.length := by have := RLN.out; omega
        have z2 : T.length ≤ RL.length := by have := RLN.out; omega
        have DD := Lib.hid (up D4.out B6.out D4.out.size)
        have SB := Lib.hid (SA.out _ DD.out)
        have x0 := (BX3.out.below DD.out BX3.out.lt).cell 0
        have x1 := (BX3.out.below DD.out BX3.out.lt).cell 1
        go_wp2_with fail
        refine SB.out.mono ?_
        rintro e w7 ⟨rfl, hb7⟩
        have B8 := Lib.hid (up B3.out (up DD.out hb7 DD.out.size) B3.out.size)
        clear hb7 SB x0 x1
        go_wp2_with fail
        refine (AW.out _).mono ?_
        rintro e w9 ⟨rfl, hba⟩
        have BA := Lib.hid (up B8.out hba B8.out.size)
        clear hba
        go_wp2_with fail
        go_ret
        exact ⟨rfl, BA.out⟩
theorem walk (w : World) (A : Option Addr) (c : Nat) (D : List DR) (h1 : st.RowsIn w A D) (hc : D.length ≤ c) (hm : c ≤ maxLen) :
    Calls Try.prog 5 #[.slice A D.length c] w fun e w' => e = .returned (.bool true) ∧ Below w.heap.size w w' := by
  unfold maxLen at hm
  by_cases q : 30 < D.length
  · exact walk_no w A D c (by omega) q
  · exact walk_yes w A D c h1 (by omega)

set_option maxRecDepth 100000 in
theorem lifted (os : Os) (started : os.Started) (H : Type) (enc : TypeId × Value → H) :
    ReturnsInHanded {} Try.checked os 5 .any (Rows.stallRestoresSpec.pre6 enc Try.prog Try.f5 Rows.stallRestoresRow.domain false) (Rows.stallRestoresSpec.post enc Try.prog Try.f5 false true false false) := by
  refine returnsInHanded_of_change (C := Try.checked) base.own started (by kernel_rfl) Try.func5
    (ChangeSpec.witness6 (enc := enc) (C := Try.checked) false ⟨#[], #[.slice none 0 0], []⟩ 8 (by kernel_rfl) (by kernel_rfl) (by kernel_rfl) (by kernel_rfl)) ?_
  intro W bs args ds gs before hval0 hW _ _
  have hval : ∀ (j : Nat) t v, Try.f5.params[j]? = some t → args[j]? = some v → Value.okWide Try.prog W .any bs t v := hval0
  have hW' : DataW.Whole enc Try.prog Try.f5.params.toList Rows.stallRestoresSpec.vars false W args.toList ds gs before := hW
  obtain ⟨p, q, hA0, hV, rfl, _, _⟩ := hW
  have hA : DataW.TrodAll enc Try.prog W 0 (fun _ => true) true Try.f5.params.toList args.toList ds p := hA0
  rw [Try.params5] at hA hval
  obtain ⟨v0, vs0, d0, ds0, p0, q0, hargs, rfl, rfl, h0, r0⟩ := trodAll_cons hA
  obtain ⟨rfl, rfl, rfl⟩ := trodAll_nil r0
  obtain rfl : args = #[v0] := by cases args; simp_all
  obtain ⟨rfl, rfl⟩ := trodVars_none hV
  obtain ⟨A0, c0, D0, rfl, b0, m0, n0⟩ := st.open_drows (hval 0 51 v0 rfl rfl) h0
  clear hA0 hval0
  refine (walk W A0 c0 D0 n0 b0 m0).mono fun e W' ⟨he, hb⟩ => ?_
  subst he
  exact ⟨_, rfl, base.law_post base.laid (by kernel_rfl) rfl rfl Try.underlying4 hW' rfl rfl rfl hb⟩

theorem over : Rows.stallRestoresRow.holds Try.pinned (OpenSpec.ofChange Rows.stallRestoresSpec) :=
  OpenClaim.holds_of_wide 5 Try.f5 rfl rfl rfl rfl rfl rfl rfl ⟨rfl, rfl, rfl, rfl, rfl⟩ rfl rfl rfl rfl rfl (by kernel_rfl) Try.func5 (by kernel_rfl)
    (of_decide_eq_true (by kernel_rfl)) (by unfold Func.isWrapper; first | (rw [if_pos (by decide +kernel)]; kernel_rfl) | (rw [if_neg (by decide +kernel)]; exact ⟨rfl, rfl⟩))
    (fun os started H enc _ => lifted os started H enc)

theorem proved : Rows.StallRestoresSaid := over
#print axioms proved
end Go.Proofs.Ythnjacfpnbhfpaa.stallRestores
