/-
  Contracts of the reference of package thing: Move, In.
-/
import Derived.Test.YtckdfdnhoionnaaTgK
import Derived.Test.YtckdfdnhoionnaaBase2
namespace Go.Proofs.Ytckdfdnhoionnaa.tg
open Go.RowKit
open Go.Maps (Keyed)
open base (ret_bool ret_int made up Blk Only)
open rk mk il nm
set_option linter.unusedVariables false
set_option linter.unusedSimpArgs false
variable {B g m K : Nat} {w w1 w2 w5 w' : World} {L : List Th} {nx : Int}
theorem set_snoc (L : List Th) (i : Nat) (y : Th) {k : Nat} (hk : k < L.length) : (L.set i y).take (k + 1) = (L.set i y).take k ++ [if k = i then y else L[k]] := by
  rw [List.take_succ_eq_append_getElem (by simpa using hk)]
  congr 2
  rw [List.getElem_set]
  by_cases e : i = k
  · rw [if_pos e, if_pos e.symm]
  · rw [if_neg e, if_neg (fun q => e q.symm)]
set_option maxRecDepth 100000 in
set_option maxHeartbeats 4000000 in
theorem rmove_any (A : Option Addr) (c : Nat) (L : List Th) (nx n : Int) (p : Pc) (o : Int) (B : Nat) (w : World) (ho : Own E6 w B 43 (.slice A L.length c) L) (hl : L.length ≤ 100000) (hB : B ≤ w.heap.size) :
    Calls Try.prog 31 #[.agg #[.slice A L.length c, .int .i64 nx], .int .i64 n, pv p, .int .i64 o] w (ROP B (move (L, nx) n p o) w) := by
  have IS := Lib.hid (show move (L, nx) n p o = match fi (isId n) L with | none => ((L, nx), 14) | some i => if rt p = false ∨ o < 1 then ((L, nx), 10) else ((L.set i (mv (L.getD i dflt) p o), nx), 0) from rfl)
  generalize move (L, nx) n p o = r at *
  have OF := Lib.hid (fun ws (h : Lay E6 ws A L) => rfind_any A c L nx n ws h hl)
  have RI := Lib.hid (fun ws => rright_any p ws)
  have FL := Lib.hid (fun i (h : fi (isId n) L = some i) => fi_lt h)
  have hm1 : Below w.heap.size w (w.alloc (.cells #[.slice A L.length c, .int .i64 nx] 29)) := made w _
  have hm2 : Below w.heap.size w ((w.alloc (.cells #[.slice A L.length c, .int .i64 nx] 29)).alloc (.cells #[.int .i64 p.kd, .int .i64 p.hs, .int .i64 p.sl] 41)) := hm1.alloc (by rw [asz]; omega) _
  have hm3 : Below w.heap.size w (((w.alloc (.cells #[.slice A L.length c, .int .i64 nx] 29)).alloc (.cells #[.int .i64 p.kd, .int .i64 p.hs, .int .i64 p.sl] 41)).alloc (.cells #[.slice none 0 0, .int .i64 0] 29)) := hm2.alloc (by rw [asz, asz]; omega) _
  have bx : Blk (((w.alloc (.cells #[.slice A L.length c, .int .i64 nx] 29)).alloc (.cells #[.int .i64 p.kd, .int .i64 p.hs, .int .i64 p.sl] 41)).alloc (.cells #[.slice none 0 0, .int .i64 0] 29)) w.heap.size 29 #[.slice A L.length c, .int .i64 nx] := ((Blk.new _ _ _).alloc _).alloc _
  have bp : Blk (((w.alloc (.cells #[.slice A L.length c, .int .i64 nx] 29)).alloc (.cells #[.int .i64 p.kd, .int .i64 p.hs, .int .i64 p.sl] 41)).alloc (.cells #[.slice none 0 0, .int .i64 0] 29)) (w.heap.size + 1) 41 #[.int .i64 p.kd, .int .i64 p.hs, .int .i64 p.sl] := by
    have := (Blk.new (w.alloc (.cells #[.slice A L.length c, .int .i64 nx] 29)) 41 #[.int .i64 p.kd, .int .i64 p.hs, .int .i64 p.sl]).alloc (.cells #[.slice none 0 0, .int .i64 0] 29)
    rw [asz] at this
    exact this
  have br : Blk (((w.alloc (.cells #[.slice A L.length c, .int .i64 nx] 29)).alloc (.cells #[.int .i64 p.kd, .int .i64 p.hs, .int .i64 p.sl] 41)).alloc (.cells #[.slice none 0 0, .int .i64 0] 29)) (w.heap.size + 1 + 1) 29 #[.slice none 0 0, .int .i64 0] := by
    have := Blk.new ((w.alloc (.cells #[.slice A L.length c, .int .i64 nx] 29)).alloc (.cells #[.int .i64 p.kd, .int .i64 p.hs, .int .i64 p.sl] 41)) 29 #[.slice none 0 0, .int .i64 0]
    rw [asz, asz] at this
    exact this
  have BX := Lib.hid bx
  have BP := Lib.hid bp
  have BR := Lib.hid br
  have M := Lib.hid hm3
  have HO := Lib.hid (ho.below hm3)
  have HB := Lib.hid hB
  have LAY := Lib.hid (fun ws B' (h : Own E6 ws B' 43 (.slice A L.length c) L) => own_lay h)
  have b0 := bx.cell 0
  have b1 := bx.cell 1
  have q0 := bp.cell 0
  have q1 := bp.cell 1
  have q2 := bp.cell 2
  have r0 := br.cell 0
  have r1 := br.cell 1
  have f0 := br.free 0
  have f1 := br.free 1
  clear ho hB hm1 hm2 hm3 bx br bp
  generalize hw2 : ((w.alloc (.cells #[.slice A L.length c, .int .i64 nx] 29)).alloc (.cells #[.int .i64 p.kd, .int .i64 p.hs, .int .i64 p.sl] 41)).alloc (.cells #[.slice none 0 0, .int .i64 0] 29) = w2 at *
  generalize fi (isId n) L = oo at *
  have DD := Lib.hid (fun i (h : i < L.length) => (show mv (L.getD i dflt) p o = ⟨(L[i]'h).id, (L[i]'h).nm, o, p.kd, p.hs, p.sl⟩ from by rw [getD_of h]; rfl))
  generalize rt p = rr at *
  obtain ⟨p0, p1, p2⟩ := p
  dsimp only [pv] at BP q0 q1 q2 hw2 RI DD ⊢
  cases oo with
  | none =>
    obtain rfl := IS.out
    dsimp only [ix] at OF
    go_enter Try.func31, Try.ntmps31
    go_wp2_with (rw [hw2])
    refine (OF.out _ (LAY.out _ _ HO.out)).mono ?_
    rintro e w3 ⟨rfl, hb3⟩
    have BP3 := Lib.hid (BP.out.below hb3 BP.out.lt)
    have B3 := Lib.hid (up M.out hb3 M.out.size)
    have BX3 := Lib.hid (BX.out.below hb3 BX.out.lt)
    have BR3 := Lib.hid (BR.out.below hb3 BR.out.lt)
    have HO3 := Lib.hid (HO.out.below hb3)
    clear hb3 b0 b1 q0 q1 q2 r0 r1 f0 f1
    have b0 := BX3.out.cell 0
    have b1 := BX3.out.cell 1
    have r0 := BR3.out.cell 0
    have r1 := BR3.out.cell 1
    have f0 := BR3.out.free 0
    have f1 := BR3.out.free 1
    go_wp2_with fail
    have K := blk2 BR3.out (.slice A L.length c) (.int .i64 nx)
    have g0 := K.cell 0
    have g1 := K.cell 1
    refine bodyPost_ret (v := .tuple #[.agg #[.slice A L.length c, .int .i64 nx], .int .i64 14]) (by simp [results, Try.results31, go_sem, g0, g1]) rfl ?_
    exact ⟨_, rfl, own2 HO3.out BR3.out (by decide) _ _, below2 B3.out (Nat.le_succ_of_le (Nat.le_succ _)) _ _⟩
  | some i =>
  have hil := FL.out i rfl
  have D := Lib.hid (DD.out i hil)
  dsimp only [ix] at OF IS
  cases rr with
  | false =>
    rw [if_pos (.inl rfl)] at IS
    obtain rfl := IS.out
    clear IS
    go_enter Try.func31, Try.ntmps31
    go_wp2_with (rw [hw2])
    refine (OF.out _ (LAY.out _ _ HO.out)).mono ?_
    rintro e w3 ⟨rfl, hb3⟩
    have BP3 := Lib.hid (BP.out.below hb3 BP.out.lt)
    have B3 := Lib.hid (up M.out hb3 M.out.size)
    have BX3 := Lib.hid (BX.out.below hb3 BX.out.lt)
    have BR3 := Lib.hid (BR.out.below hb3 BR.out.lt)
    have HO3 := Lib.hid (HO.out.below hb3)
    clear hb3 b0 b1 q0 q1 q2 r0 r1 f0 f1
    have b0 := BX3.out.cell 0
    have b1 := BX3.out.cell 1
    have r0 := BR3.out.cell 0
    have r1 := BR3.out.cell 1
    have f0 := BR3.out.free 0
    have f1 := BR3.out.free 1
    have q0 := BP3.out.cell 0
    have q1 := BP3.out.cell 1
    have q2 := BP3.out.cell 2
    have hun : undef = Value.tuple #[] := rfl
    go_wp2_with fail
    refine (RI.out _).mono ?_
    rintro e w4 ⟨rfl, hb4⟩
    have BP4 := Lib.hid (BP3.out.below hb4 BP3.out.lt)
    have B4 := Lib.hid (up B3.out hb4 B3.out.size)
    have BX4 := Lib.hid (BX3.out.below hb4 BX3.out.lt)
    have BR4 := Lib.hid (BR3.out.below hb4 BR3.out.lt)
    have HO4 := Lib.hid (HO3.out.below hb4)
    clear hb4 b0 b1 q0 q1 q2 r0 r1 f0 f1
    have b0 := BX4.out.cell 0
    have b1 := BX4.out.cell 1
    have r0 := BR4.out.cell 0
    have r1 := BR4.out.cell 1
    have f0 := BR4.out.free 0
    have f1 := BR4.out.free 1
    have q0 := BP4.out.cell 0
    have q1 := BP4.out.cell 1
    have q2 := BP4.out.cell 2
    go_wp2_with fail
    have K := blk2 BR4.out (.slice A L.length c) (.int .i64 nx)
    have g0 := K.cell 0
    have g1 := K.cell 1
    refine bodyPost_ret (v := .tuple #[.agg #[.slice A L.length c, .int .i64 nx], .int .i64 10]) (by simp [results, Try.results31, go_sem, g0, g1]) rfl ?_
    exact ⟨_, rfl, own2 HO4.out BR4.out (by decide) _ _, below2 B4.out (Nat.le_succ_of_le (Nat.le_succ _)) _ _⟩
  | true =>
  by_cases ho1 : o < 1
  · rw [if_pos (.inr ho1)] at IS
    obtain rfl := IS.out
    clear IS
    go_enter Try.func31, Try.ntmps31
    go_wp2_with (rw [hw2])
    refine (OF.out _ (LAY.out _ _ HO.out)).mono ?_
    rintro e w3 ⟨rfl, hb3⟩
    have BP3 := Lib.hid (BP.out.below hb3 BP.out.lt)
    have B3 := Lib.hid (up M.out hb3 M.out.size)
    have BX3 := Lib.hid (BX.out.below hb3 BX.out.lt)
    have BR3 := Lib.hid (BR.out.below hb3 BR.out.lt)
    have HO3 := Lib.hid (HO.out.below hb3)
    clear hb3 b0 b1 q0 q1 q2 r0 r1 f0 f1
    have b0 := BX3.out.cell 0
    have b1 := BX3.out.cell 1
    have r0 := BR3.out.cell 0
    have r1 := BR3.out.cell 1
    have f0 := BR3.out.free 0
    have f1 := BR3.out.free 1
    have q0 := BP3.out.cell 0
    have q1 := BP3.out.cell 1
    have q2 := BP3.out.cell 2
    have hun : undef = Value.tuple #[] := rfl
    go_wp2_with fail
    refine (RI.out _).mono ?_
    rintro e w4 ⟨rfl, hb4⟩
    have BP4 := Lib.hid (BP3.out.below hb4 BP3.out.lt)
    have B4 := Lib.hid (up B3.out hb4 B3.out.size)
    have BX4 := Lib.hid (BX3.out.below hb4 BX3.out.lt)
    have BR4 := Lib.hid (BR3.out.below hb4 BR3.out.lt)
    have HO4 := Lib.hid (HO3.out.below hb4)
    clear hb4 b0 b1 q0 q1 q2 r0 r1 f0 f1
    have b0 := BX4.out.cell 0
    have b1 := BX4.out.cell 1
    have r0 := BR4.out.cell 0
    have r1 := BR4.out.cell 1
    have f0 := BR4.out.free 0
    have f1 := BR4.out.free 1
    have q0 := BP4.out.cell 0
    have q1 := BP4.out.cell 1
    have q2 := BP4.out.cell 2
    go_wp2_with fail
    have K := blk2 BR4.out (.slice A L.length c) (.int .i64 nx)
    have g0 := K.cell 0
    have g1 := K.cell 1
    refine bodyPost_ret (v := .tuple #[.agg #[.slice A L.length c, .int .i64 nx], .int .i64 10]) (by simp [results, Try.results31, go_sem, g0, g1]) rfl ?_
    exact ⟨_, rfl, own2 HO4.out BR4.out (by decide) _ _, below2 B4.out (Nat.le_succ_of_le (Nat.le_succ _)) _ _⟩
  · rw [if_neg (by simp; omega), D.out] at IS
    obtain rfl := IS.out
    clear IS
    obtain ⟨y, hy⟩ : ∃ y : Th, y = ⟨L[i].id, L[i].nm, o, p0, p1, p2⟩ := ⟨_, rfl⟩
    rw [← hy]
    have SG := Lib.hid (fun k (hk : k < L.length) => set_snoc L i y hk)
    have YY := Lib.hid (fun k (hk : k < L.length) (e : k = i) => (show y = ⟨(L[k]'hk).id, (L[k]'hk).nm, o, p0, p1, p2⟩ from by subst e; exact hy))
    have HLL := Lib.hid (show (L.set i y).length = L.length from List.length_set ..)
    generalize L.set i y = L' at *
    clear hy D DD
    go_enter Try.func31, Try.ntmps31
    go_wp2_with (rw [hw2])
    refine (OF.out _ (LAY.out _ _ HO.out)).mono ?_
    rintro e w3 ⟨rfl, hb3⟩
    have BP3 := Lib.hid (BP.out.below hb3 BP.out.lt)
    have B3 := Lib.hid (up M.out hb3 M.out.size)
    have BX3 := Lib.hid (BX.out.below hb3 BX.out.lt)
    have BR3 := Lib.hid (BR.out.below hb3 BR.out.lt)
    have HO3 := Lib.hid (HO.out.below hb3)
    clear hb3 b0 b1 q0 q1 q2 r0 r1 f0 f1
    have b0 := BX3.out.cell 0
    have b1 := BX3.out.cell 1
    have r0 := BR3.out.cell 0
    have r1 := BR3.out.cell 1
    have f0 := BR3.out.free 0
    have f1 := BR3.out.free 1
    have q0 := BP3.out.cell 0
    have q1 := BP3.out.cell 1
    have q2 := BP3.out.cell 2
    have hun : undef = Value.tuple #[] := rfl
    go_wp2_with fail
    refine (RI.out _).mono ?_
    rintro e w4 ⟨rfl, hb4⟩
    have BP4 := Lib.hid (BP3.out.below hb4 BP3.out.lt)
    have B4 := Lib.hid (up B3.out hb4 B3.out.size)
    have BX4 := Lib.hid (BX3.out.below hb4 BX3.out.lt)
    have BR4 := Lib.hid (BR3.out.below hb4 BR3.out.lt)
    have HO4 := Lib.hid (HO3.out.below hb4)
    clear hb4 b0 b1 q0 q1 q2 r0 r1 f0 f1
    have b0 := BX4.out.cell 0
    have b1 := BX4.out.cell 1
    have r0 := BR4.out.cell 0
    have r1 := BR4.out.cell 1
    have f0 := BR4.out.free 0
    have f1 := BR4.out.free 1
    have q0 := BP4.out.cell 0
    have q1 := BP4.out.cell 1
    have q2 := BP4.out.cell 2
    go_wp2_with fail
    clear b0 b1 q0 q1 q2 r0 r1 f0 f1 OF RI BX3 BR3 HO3 BP3
    go_loopw [11, 12] (fun o j wr => ∃ (k : Nat) (W : World), W = wr ∧ k ≤ L.length ∧ j = .int .i64 k ∧ Own E6 wr w4.heap.size 43 o (L'.take k) ∧ Below w4.heap.size w4 wr) (fun _ j _ => L.length - (intOf j).toNat)
    case atStart => exact ⟨0, _, rfl, by omega, rfl, Own.nil _ _ _, Below.refl _ _⟩
    case round =>
      obtain ⟨k, w5, rfl, hk, rfl, hown, hb5⟩ := hrel
      have O5 := Lib.hid hown
      have B5 := Lib.hid hb5
      have b0 := (BX4.out.below hb5 BX4.out.lt).cell 0
      have b1 := (BX4.out.below hb5 BX4.out.lt).cell 1
      by_cases hkl : k < L.length
      · have TK := Lib.hid (SG.out k hkl)
        obtain ⟨bb, off, rfl, e0, e1, e2, e3, e4, e5⟩ := lay6 (LAY.out _ _ (HO4.out.below hb5)) hkl
        have HT := Lib.hid (show (L'.take k).length + 1 ≤ 100000000 by rw [List.length_take]; omega)
        have YK := Lib.hid (YY.out k hkl)
        have qp := BP4.out.below hb5 BP4.out.lt
        have q0 := qp.cell 0
        have q1 := qp.cell 1
        have q2 := qp.cell 2
        have qlt := qp.lt
        have qne : ¬ (w.heap.size + 1 = w5.heap.size) := by omega
        clear hown hb5 qp
        generalize L[k] = d at *
        obtain ⟨d0, d1, d2, d3, d4, d5⟩ := d
        dsimp only at e0 e1 e2 e3 e4 e5 YK
        by_cases hki : k = i
        · have q : ((k : Int) == (i : Int)) = true := by simp; omega
          rw [if_pos hki, YK.out hki] at TK
          clear hki YK
          have hmA := made w5 (.cells #[.int .i64 d0, .string d1, .int .i64 o, .int .i64 p0, .int .i64 p1, .int .i64 p2] 43)
          have BA := Lib.hid (up B5.out hmA B5.out.size)
          have OA := Lib.hid (O5.out.below hmA)
          have bn : Blk ((w5.alloc (.cells #[.int .i64 d0, .string d1, .int .i64 o, .int .i64 p0, .int .i64 p1, .int .i64 p2] 43)).alloc (.cells #[.int .i64 d0, .string d1, .int .i64 o, .int .i64 p0, .int .i64 p1, .int .i64 p2] 43)) (w5.heap.size + 1) 43 #[.int .i64 d0, .string d1, .int .i64 o, .int .i64 p0, .int .i64 p1, .int .i64 p2] := by
            have := Blk.new (w5.alloc (.cells #[.int .i64 d0, .string d1, .int .i64 o, .int .i64 p0, .int .i64 p1, .int .i64 p2] 43)) 43 #[.int .i64 d0, .string d1, .int .i64 o, .int .i64 p0, .int .i64 p1, .int .i64 p2]
            rw [asz] at this
            exact this
          have O6 := Lib.hid (OA.out.below (made _ (.cells #[.int .i64 d0, .string d1, .int .i64 o, .int .i64 p0, .int .i64 p1, .int .i64 p2] 43)))
          have LY := Lib.hid (Lay.lit (E := E6) _ ⟨d0, d1, o, p0, p1, p2⟩ 43 (w5.heap.size + 1) bn)
          have B6 := Lib.hid (up BA.out (made _ (.cells #[.int .i64 d0, .string d1, .int .i64 o, .int .i64 p0, .int .i64 p1, .int .i64 p2] 43)) BA.out.size)
          clear hmA bn
          go_wp2_with ((with_reducible show wpList _ _ _ (⟨some 50, _, _, _, _, _⟩ :: _) _ _); go_must (refine wp_app TR (c := 1) (n := 1) rfl _ _ rfl rfl rfl rfl rfl O6.out LY.out HT.out B6.out.size ?_))
          intro v7 w7 own7 gr7
          have B7 := Lib.hid (B6.out.trans (gr7.below O6.out B6.out.size))
          rw [← TK.out] at own7
          have O7 := Lib.hid own7
          obtain ⟨A2, c2, rfl, -⟩ := own7.open_
          clear own7 gr7 O6 LY B6 e0 e1 e2 e3 e4 e5 b0 b1 q0 q1 q2 HT BA OA
          go_wp2_with fail
          refine ⟨⟨k + 1, _, rfl, by omega, by go_num, O7.out, B7.out⟩, by simp [intOf]; omega⟩
        · have q : ((k : Int) == (i : Int)) = false := by simp; omega
          rw [if_neg hki] at TK
          clear hki YK
          have hmA := made w5 (.cells #[.int .i64 d0, .string d1, .int .i64 d2, .int .i64 d3, .int .i64 d4, .int .i64 d5] 43)
          have BA := Lib.hid (up B5.out hmA B5.out.size)
          have OA := Lib.hid (O5.out.below hmA)
          have bn : Blk ((w5.alloc (.cells #[.int .i64 d0, .string d1, .int .i64 d2, .int .i64 d3, .int .i64 d4, .int .i64 d5] 43)).alloc (.cells #[.int .i64 d0, .string d1, .int .i64 d2, .int .i64 d3, .int .i64 d4, .int .i64 d5] 43)) (w5.heap.size + 1) 43 #[.int .i64 d0, .string d1, .int .i64 d2, .int .i64 d3, .int .i64 d4, .int .i64 d5] := by
            have := Blk.new (w5.alloc (.cells #[.int .i64 d0, .string d1, .int .i64 d2, .int .i64 d3, .int .i64 d4, .int .i64 d5] 43)) 43 #[.int .i64 d0, .string d1, .int .i64 d2, .int .i64 d3, .int .i64 d4, .int .i64 d5]
            rw [asz] at this
            exact this
          have O6 := Lib.hid (OA.out.below (made _ (.cells #[.int .i64 d0, .string d1, .int .i64 d2, .int .i64 d3, .int .i64 d4, .int .i64 d5] 43)))
          have LY := Lib.hid (Lay.lit (E := E6) _ ⟨d0, d1, d2, d3, d4, d5⟩ 43 (w5.heap.size + 1) bn)
          have B6 := Lib.hid (up BA.out (made _ (.cells #[.int .i64 d0, .string d1, .int .i64 d2, .int .i64 d3, .int .i64 d4, .int .i64 d5] 43)) BA.out.size)
          clear hmA bn
          go_wp2_with ((with_reducible show wpList _ _ _ (⟨some 50, _, _, _, _, _⟩ :: _) _ _); go_must (refine wp_app TR (c := 1) (n := 1) rfl _ _ rfl rfl rfl rfl rfl O6.out LY.out HT.out B6.out.size ?_))
          intro v7 w7 own7 gr7
          have B7 := Lib.hid (B6.out.trans (gr7.below O6.out B6.out.size))
          rw [← TK.out] at own7
          have O7 := Lib.hid own7
          obtain ⟨A2, c2, rfl, -⟩ := own7.open_
          clear own7 gr7 O6 LY B6 e0 e1 e2 e3 e4 e5 b0 b1 q0 q1 q2 HT BA OA
          go_wp2_with fail
          refine ⟨⟨k + 1, _, rfl, by omega, by go_num, O7.out, B7.out⟩, by simp [intOf]; omega⟩
      · obtain rfl : k = L.length := by omega
        rw [← HLL.out, List.take_length] at O5
        have br5 := BR4.out.below hb5 BR4.out.lt
        have bx5 := BX4.out.below hb5 BX4.out.lt
        have B0 := Lib.hid (up B4.out hb5 B4.out.size)
        have BR5 := Lib.hid br5
        obtain ⟨Av, cv, rfl, -⟩ := O5.out.open_
        clear hown hb5 b0 b1
        have b0 := bx5.cell 0
        have b1 := bx5.cell 1
        have r0 := br5.cell 0
        have r1 := br5.cell 1
        have f0 := br5.free 0
        have f1 := br5.free 1
        clear br5 bx5
        go_wp2_with fail
        have K := blk2 BR5.out (.slice Av L'.length cv) (.int .i64 nx)
        have g0 := K.cell 0
        have g1 := K.cell 1
        have HBB := Lib.hid (show B ≤ w4.heap.size from Nat.le_trans HB.out B4.out.size)
        refine bodyPost_ret (v := .tuple #[.agg #[.slice Av L'.length cv, .int .i64 nx], .int .i64 0]) (by simp [results, Try.results31, go_sem, g0, g1]) rfl ?_
        exact ⟨_, rfl, (own2 O5.out BR5.out (by decide) _ _).mono HBB.out, below2 B0.out (Nat.le_succ_of_le (Nat.le_succ _)) _ _⟩
theorem ids_snoc (L : List Th) (p : Pc) {k : Nat} (hk : k < L.length) : ids (L.take (k + 1)) p = if pc L[k] = p then ids (L.take k) p ++ [L[k].id] else ids (L.take k) p := by
  rw [List.take_succ_eq_append_getElem hk, ids_app, ids_cons]
  by_cases e : pc L[k] = p
  · rw [if_pos e, if_pos e]
    simp [ids]
  · rw [if_neg e, if_neg e]
    simp [ids]
set_option maxRecDepth 100000 in
set_option maxHeartbeats 4000000 in
theorem rin_any (A : Option Addr) (c : Nat) (L : List Th) (nx : Int) (p : Pc) (w : World) (hA : Lay E6 w A L) (hl : L.length ≤ 100000) :
    Calls Try.prog 15 #[.agg #[.slice A L.length c, .int .i64 nx], pv p] w (NewP (ids L p) w) := by
  have hm1 : Below w.heap.size w (w.alloc (.cells #[.slice A L.length c, .int .i64 nx] 29)) := made w _
  have hm2 : Below w.heap.size w ((w.alloc (.cells #[.slice A L.length c, .int .i64 nx] 29)).alloc (.cells #[.int .i64 p.kd, .int .i64 p.hs, .int .i64 p.sl] 41)) := hm1.alloc (by rw [asz]; omega) _
  have bx : Blk ((w.alloc (.cells #[.slice A L.length c, .int .i64 nx] 29)).alloc (.cells #[.int .i64 p.kd, .int .i64 p.hs, .int .i64 p.sl] 41)) w.heap.size 29 #[.slice A L.length c, .int .i64 nx] := (Blk.new _ _ _).alloc _
  have bp : Blk ((w.alloc (.cells #[.slice A L.length c, .int .i64 nx] 29)).alloc (.cells #[.int .i64 p.kd, .int .i64 p.hs, .int .i64 p.sl] 41)) (w.heap.size + 1) 41 #[.int .i64 p.kd, .int .i64 p.hs, .int .i64 p.sl] := by
    have := Blk.new (w.alloc (.cells #[.slice A L.length c, .int .i64 nx] 29)) 41 #[.int .i64 p.kd, .int .i64 p.hs, .int .i64 p.sl]
    rw [asz] at this
    exact this
  have BX := Lib.hid bx
  have BP := Lib.hid bp
  have M := Lib.hid hm2
  have HA := Lib.hid (hA.below hm2)
  clear hA hm1 hm2 bx bp
  generalize hw2 : (w.alloc (.cells #[.slice A L.length c, .int .i64 nx] 29)).alloc (.cells #[.int .i64 p.kd, .int .i64 p.hs, .int .i64 p.sl] 41) = w2 at *
  have SN := Lib.hid (fun k (hk : k < L.length) => ids_snoc L p hk)
  have IL := Lib.hid (fun k => Nat.le_trans (ids_len (L.take k) p) (List.length_take_le' k L))
  have TT := Lib.hid (show ids (L.take L.length) p = ids L p by rw [List.take_length])
  have T0 := Lib.hid (show ids (L.take 0) p = [] from rfl)
  obtain ⟨J, hJ⟩ : ∃ J : Nat → List Int, J = fun k => ids (L.take k) p := ⟨_, rfl⟩
  have e1 : ∀ k, ids (L.take k) p = J k := fun k => by rw [hJ]
  simp only [e1] at SN IL TT T0
  rw [← TT.out]
  clear e1 hJ TT
  obtain ⟨p0, p1, p2⟩ := p
  dsimp only [pv] at BP hw2 ⊢
  go_enter Try.func15, Try.ntmps15
  go_wp2_with (rw [hw2])
  clear hw2
  go_loopw [5, 6] (fun o j wr => ∃ (k : Nat) (W : World), W = wr ∧ k ≤ L.length ∧ j = .int .i64 k ∧ OwnI wr w2.heap.size o (J k) ∧ Below w2.heap.size w2 wr) (fun _ j _ => L.length - (intOf j).toNat)
  case atStart => exact ⟨0, _, rfl, by omega, rfl, by rw [T0.out]; exact Own.nil _ _ _, Below.refl _ _⟩
  case round =>
    obtain ⟨k, w5, rfl, hk, rfl, hown, hb5⟩ := hrel
    have O5 := Lib.hid hown
    have B5 := Lib.hid hb5
    have b0 := (BX.out.below hb5 BX.out.lt).cell 0
    by_cases hkl : k < L.length
    · obtain ⟨bb, off, rfl, e0, e1, e2, e3, e4, e5⟩ := lay6 (HA.out.below hb5) hkl
      have TK := Lib.hid (SN.out k hkl)
      have JL := Lib.hid (show (J k).length + 1 ≤ 100000000 by have := IL.out k; omega)
      have HAD := Lib.hid (fun ws (h : Below w2.heap.size w2 ws) => lay6 (HA.out.below h) hkl)
      have LK := Lib.hid (fun ws (h : Below w2.heap.size w2 ws) => (show ws.cell? ⟨w.heap.size, 0, none⟩ = some (.slice (some ⟨bb, off, none⟩) L.length c) ∧ ws.cell? ⟨w.heap.size + 1, 0, none⟩ = some (.int .i64 p0) ∧ ws.cell? ⟨w.heap.size + 1, 1, none⟩ = some (.int .i64 p1) ∧ ws.cell? ⟨w.heap.size + 1, 2, none⟩ = some (.int .i64 p2) ∧ ws.cell? ⟨bb, off + k * 6 + 3, none⟩ = some (.int .i64 L[k].kd) ∧ ws.cell? ⟨bb, off + k * 6 + 4, none⟩ = some (.int .i64 L[k].hs) ∧ ws.cell? ⟨bb, off + k * 6 + 5, none⟩ = some (.int .i64 L[k].sl) ∧ ws.cell? ⟨bb, off + k * 6, none⟩ = some (.int .i64 L[k].id) from by
        obtain ⟨b', o', ee, x0, x1, x2, x3, x4, x5⟩ := HAD.out ws h
        injection ee with ee
        injection ee with h1 h2
        subst h1 h2
        exact ⟨(BX.out.below h BX.out.lt).cell 0, (BP.out.below h BP.out.lt).cell 0, (BP.out.below h BP.out.lt).cell 1, (BP.out.below h BP.out.lt).cell 2, x3, x4, x5, x0⟩))
      have PE := Lib.hid (show pc L[k] = ⟨L[k].kd, L[k].hs, L[k].sl⟩ from rfl)
      clear hown hb5 e0 e1 e2 e3 e4 e5 HAD
      generalize L[k] = d at *
      generalize pc d = pd at *
      obtain ⟨d0, d1, d2, d3, d4, d5⟩ := d
      dsimp only at LK PE TK
      have DR := Lib.hid (up B5.out ((Below.refl w5.heap.size w5).drew) B5.out.size)
      by_cases q3 : d3 = p0
      · by_cases q4 : d4 = p1
        · by_cases q5 : d5 = p2
          · rw [if_pos (by rw [PE.out, q3, q4, q5])] at TK
            subst q3 q4 q5
            clear PE
            go_wp2_with fail
            refine wp_region_held_drew (S := fun ws => ws.cell? ⟨w.heap.size, 0, none⟩ = some (.slice (some ⟨bb, off, none⟩) L.length c) ∧ ws.cell? ⟨w.heap.size + 1, 0, none⟩ = some (.int .i64 d3) ∧ ws.cell? ⟨w.heap.size + 1, 1, none⟩ = some (.int .i64 d4) ∧ ws.cell? ⟨w.heap.size + 1, 2, none⟩ = some (.int .i64 d5) ∧ ws.cell? ⟨bb, off + k * 6 + 3, none⟩ = some (.int .i64 d3) ∧ ws.cell? ⟨bb, off + k * 6 + 4, none⟩ = some (.int .i64 d4) ∧ ws.cell? ⟨bb, off + k * 6 + 5, none⟩ = some (.int .i64 d5) ∧ ws.cell? ⟨bb, off + k * 6, none⟩ = some (.int .i64 d0)) (by kernel_rfl) (LK.out _ DR.out) (fun hHeld => ?_)
            refine wpAnyH_take (i := 0) (v := ?_) rfl (by kernel_rfl) (by kernel_rfl) (by kernel_rfl) (fun _ _ _ h => h) (Or.inl ⟨by rfl, ?_⟩) (by assumption) ?_
            rotate_left
            · (intro w hSw; (try dsimp only at hSw); first | (go_simp; done) | (go_simp; with_reducible rfl))
            simp only [Act.put, List.getElem_toArray, List.getElem_cons_zero, List.getElem_cons_succ, List.setIfInBounds_toArray, List.set_cons_zero, List.set_cons_succ]
            refine wpAnyH_take (i := 1) (v := ?_) rfl (by kernel_rfl) (by kernel_rfl) (by kernel_rfl) (fun _ _ _ h => h) (Or.inl ⟨by rfl, ?_⟩) (by assumption) ?_
            rotate_left
            · (intro w hSw; (try dsimp only at hSw); first | (go_simp; done) | (go_simp; with_reducible rfl))
            simp only [Act.put, List.getElem_toArray, List.getElem_cons_zero, List.getElem_cons_succ, List.setIfInBounds_toArray, List.set_cons_zero, List.set_cons_succ]
            refine wpAnyH_take (i := 2) (v := ?_) rfl (by kernel_rfl) (by kernel_rfl) (by kernel_rfl) (fun _ _ _ h => h) (Or.inl ⟨by rfl, ?_⟩) (by assumption) ?_
            rotate_left
            · (intro w hSw; (try dsimp only at hSw); first | (go_simp; done) | (go_simp; with_reducible rfl))
            simp only [Act.put, List.getElem_toArray, List.getElem_cons_zero, List.getElem_cons_succ, List.setIfInBounds_toArray, List.set_cons_zero, List.set_cons_succ]
            refine wpAnyH_take (i := 3) (v := ?_) rfl (by kernel_rfl) (by kernel_rfl) (by kernel_rfl) (fun _ _ _ h => h) (Or.inl ⟨by rfl, ?_⟩) (by assumption) ?_
            rotate_left
            · (intro w hSw; (try dsimp only at hSw); first | (go_simp; done) | (go_simp; with_reducible rfl))
            simp only [Act.put, List.getElem_toArray, List.getElem_cons_zero, List.getElem_cons_succ, List.setIfInBounds_toArray, List.set_cons_zero, List.set_cons_succ]
            refine wpAnyH_take (i := 4) (v := ?_) rfl (by kernel_rfl) (by kernel_rfl) (by kernel_rfl) (fun _ _ _ h => h) (Or.inl ⟨by rfl, ?_⟩) (by assumption) ?_
            rotate_left
            · (intro w hSw; (try dsimp only at hSw); first | (go_simp; done) | (go_simp; with_reducible rfl))
            simp only [Act.put, List.getElem_toArray, List.getElem_cons_zero, List.getElem_cons_succ, List.setIfInBounds_toArray, List.set_cons_zero, List.set_cons_succ]
            refine wpAnyH_take (i := 5) (v := ?_) rfl (by kernel_rfl) (by kernel_rfl) (by kernel_rfl) (fun _ _ _ h => h) (Or.inl ⟨by rfl, ?_⟩) (by assumption) ?_
            rotate_left
            · (intro w hSw; (try dsimp only at hSw); first | (go_simp; done) | (go_simp; with_reducible rfl))
            simp only [Act.put, List.getElem_toArray, List.getElem_cons_zero, List.getElem_cons_succ, List.setIfInBounds_toArray, List.set_cons_zero, List.set_cons_succ]
            refine wpAnyH_take (i := 6) (v := ?_) rfl (by kernel_rfl) (by kernel_rfl) (by kernel_rfl) (fun _ _ _ h => h) (Or.inl ⟨by rfl, ?_⟩) (by assumption) ?_
            rotate_left
            · (intro w hSw; (try dsimp only at hSw); first | (go_simp; done) | (go_simp; with_reducible rfl))
            simp only [Act.put, List.getElem_toArray, List.getElem_cons_zero, List.getElem_cons_succ, List.setIfInBounds_toArray, List.set_cons_zero, List.set_cons_succ]
            refine wpAnyH_take (i := 7) (v := ?_) rfl (by kernel_rfl) (by kernel_rfl) (by kernel_rfl) (fun _ _ _ h => h) (Or.inl ⟨by rfl, ?_⟩) (by assumption) ?_
            rotate_left
            · (intro w hSw; (try dsimp only at hSw); first | (go_simp; done) | (go_simp; with_reducible rfl))
            simp only [Act.put, List.getElem_toArray, List.getElem_cons_zero, List.getElem_cons_succ, List.setIfInBounds_toArray, List.set_cons_zero, List.set_cons_succ]
            refine wpAnyH_done (by kernel_rfl) ?_ _
            clear hHeld
            obtain ⟨z0, -, -, -, -, -, -, z7⟩ := LK.out _ DR.out
            have O5' := Lib.hid (O5.out.below (Below.refl w5.heap.size w5).drew)
            generalize w5.drew = w6 at *
            have O6 := Lib.hid (O5'.out.below (made w6 (.cells #[.int .i64 d0] 3)))
            have LY := Lib.hid (Lay.lit (E := il.E1) (w6.alloc (.cells #[.int .i64 d0] 3)) d0 3 w6.heap.size (Blk.new _ _ _))
            have B6 := Lib.hid (up DR.out (made w6 (.cells #[.int .i64 d0] 3)) DR.out.size)
            go_wp2_with ((with_reducible show wpList _ _ _ (⟨some 30, _, _, _, _, _⟩ :: _) _ _); go_must (refine wp_app il.TI (c := 1) (n := 1) rfl _ _ rfl rfl rfl rfl rfl O6.out LY.out JL.out B6.out.size ?_))
            intro v7 w7 own7 gr7
            have B7 := Lib.hid (B6.out.trans (gr7.below O6.out B6.out.size))
            rw [← TK.out] at own7
            have O7 := Lib.hid own7
            obtain ⟨A2, c2, rfl, -⟩ := own7.open_
            clear own7 gr7 O6 LY B6 z0 z7
            go_wp2_with fail
            refine ⟨⟨k + 1, _, rfl, by omega, by go_num, O7.out, B7.out⟩, by simp [intOf]; omega⟩
          · rw [if_neg (by rw [PE.out]; intro e; injection e with e1 e2 e3; exact q5 e3)] at TK
            go_wp2_with fail
            refine wp_region_held_drew (S := fun ws => ws.cell? ⟨w.heap.size, 0, none⟩ = some (.slice (some ⟨bb, off, none⟩) L.length c) ∧ ws.cell? ⟨w.heap.size + 1, 0, none⟩ = some (.int .i64 p0) ∧ ws.cell? ⟨w.heap.size + 1, 1, none⟩ = some (.int .i64 p1) ∧ ws.cell? ⟨w.heap.size + 1, 2, none⟩ = some (.int .i64 p2) ∧ ws.cell? ⟨bb, off + k * 6 + 3, none⟩ = some (.int .i64 d3) ∧ ws.cell? ⟨bb, off + k * 6 + 4, none⟩ = some (.int .i64 d4) ∧ ws.cell? ⟨bb, off + k * 6 + 5, none⟩ = some (.int .i64 d5) ∧ ws.cell? ⟨bb, off + k * 6, none⟩ = some (.int .i64 d0)) (by kernel_rfl) (LK.out _ DR.out) (fun hHeld => ?_)
            refine wpAnyH_take (i := 0) (v := ?_) rfl (by kernel_rfl) (by kernel_rfl) (by kernel_rfl) (fun _ _ _ h => h) (Or.inl ⟨by rfl, ?_⟩) (by assumption) ?_
            rotate_left
            · (intro w hSw; (try dsimp only at hSw); first | (go_simp; done) | (go_simp; with_reducible rfl))
            simp only [Act.put, List.getElem_toArray, List.getElem_cons_zero, List.getElem_cons_succ, List.setIfInBounds_toArray, List.set_cons_zero, List.set_cons_succ]
            refine wpAnyH_take (i := 1) (v := ?_) rfl (by kernel_rfl) (by kernel_rfl) (by kernel_rfl) (fun _ _ _ h => h) (Or.inl ⟨by rfl, ?_⟩) (by assumption) ?_
            rotate_left
            · (intro w hSw; (try dsimp only at hSw); first | (go_simp; done) | (go_simp; with_reducible rfl))
            simp only [Act.put, List.getElem_toArray, List.getElem_cons_zero, List.getElem_cons_succ, List.setIfInBounds_toArray, List.set_cons_zero, List.set_cons_succ]
            refine wpAnyH_take (i := 2) (v := ?_) rfl (by kernel_rfl) (by kernel_rfl) (by kernel_rfl) (fun _ _ _ h => h) (Or.inl ⟨by rfl, ?_⟩) (by assumption) ?_
            rotate_left
            · (intro w hSw; (try dsimp only at hSw); first | (go_simp; done) | (go_simp; with_reducible rfl))
            simp only [Act.put, List.getElem_toArray, List.getElem_cons_zero, List.getElem_cons_succ, List.setIfInBounds_toArray, List.set_cons_zero, List.set_cons_succ]
            refine wpAnyH_take (i := 3) (v := ?_) rfl (by kernel_rfl) (by kernel_rfl) (by kernel_rfl) (fun _ _ _ h => h) (Or.inl ⟨by rfl, ?_⟩) (by assumption) ?_
            rotate_left
            · (intro w hSw; (try dsimp only at hSw); first | (go_simp; done) | (go_simp; with_reducible rfl))
            simp only [Act.put, List.getElem_toArray, List.getElem_cons_zero, List.getElem_cons_succ, List.setIfInBounds_toArray, List.set_cons_zero, List.set_cons_succ]
            refine wpAnyH_take (i := 4) (v := ?_) rfl (by kernel_rfl) (by kernel_rfl) (by kernel_rfl) (fun _ _ _ h => h) (Or.inl ⟨by rfl, ?_⟩) (by assumption) ?_
            rotate_left
            · (intro w hSw; (try dsimp only at hSw); first | (go_simp; done) | (go_simp; with_reducible rfl))
            simp only [Act.put, List.getElem_toArray, List.getElem_cons_zero, List.getElem_cons_succ, List.setIfInBounds_toArray, List.set_cons_zero, List.set_cons_succ]
            refine wpAnyH_take (i := 5) (v := ?_) rfl (by kernel_rfl) (by kernel_rfl) (by kernel_rfl) (fun _ _ _ h => h) (Or.inl ⟨by rfl, ?_⟩) (by assumption) ?_
            rotate_left
            · (intro w hSw; (try dsimp only at hSw); first | (go_simp; done) | (go_simp; with_reducible rfl))
            simp only [Act.put, List.getElem_toArray, List.getElem_cons_zero, List.getElem_cons_succ, List.setIfInBounds_toArray, List.set_cons_zero, List.set_cons_succ]
            refine wpAnyH_take (i := 6) (v := ?_) rfl (by kernel_rfl) (by kernel_rfl) (by kernel_rfl) (fun _ _ _ h => h) (Or.inl ⟨by rfl, ?_⟩) (by assumption) ?_
            rotate_left
            · (intro w hSw; (try dsimp only at hSw); first | (go_simp; done) | (go_simp; with_reducible rfl))
            simp only [Act.put, List.getElem_toArray, List.getElem_cons_zero, List.getElem_cons_succ, List.setIfInBounds_toArray, List.set_cons_zero, List.set_cons_succ]
            refine wpAnyH_take (i := 7) (v := ?_) rfl (by kernel_rfl) (by kernel_rfl) (by kernel_rfl) (fun _ _ _ h => h) (Or.inl ⟨by rfl, ?_⟩) (by assumption) ?_
            rotate_left
            · (intro w hSw; (try dsimp only at hSw); first | (go_simp; done) | (go_simp; with_reducible rfl))
            simp only [Act.put, List.getElem_toArray, List.getElem_cons_zero, List.getElem_cons_succ, List.setIfInBounds_toArray, List.set_cons_zero, List.set_cons_succ]
            refine wpAnyH_done (by kernel_rfl) ?_ _
            clear hHeld
            obtain ⟨z0, -, -, -, -, -, -, z7⟩ := LK.out _ DR.out
            have O5' := Lib.hid (O5.out.below (Below.refl w5.heap.size w5).drew)
            go_wp2_with fail
            refine ⟨⟨k + 1, _, rfl, by omega, by go_num, by rw [TK.out]; exact O5'.out, DR.out⟩, by simp [intOf]; omega⟩
        · rw [if_neg (by rw [PE.out]; intro e; injection e with e1 e2 e3; exact q4 e2)] at TK
          go_wp2_with fail
          refine wp_region_held_drew (S := fun ws => ws.cell? ⟨w.heap.size, 0, none⟩ = some (.slice (some ⟨bb, off, none⟩) L.length c) ∧ ws.cell? ⟨w.heap.size + 1, 0, none⟩ = some (.int .i64 p0) ∧ ws.cell? ⟨w.heap.size + 1, 1, none⟩ = some (.int .i64 p1) ∧ ws.cell? ⟨w.heap.size + 1, 2, none⟩ = some (.int .i64 p2) ∧ ws.cell? ⟨bb, off + k * 6 + 3, none⟩ = some (.int .i64 d3) ∧ ws.cell? ⟨bb, off + k * 6 + 4, none⟩ = some (.int .i64 d4) ∧ ws.cell? ⟨bb, off + k * 6 + 5, none⟩ = some (.int .i64 d5) ∧ ws.cell? ⟨bb, off + k * 6, none⟩ = some (.int .i64 d0)) (by kernel_rfl) (LK.out _ DR.out) (fun hHeld => ?_)
          refine wpAnyH_take (i := 0) (v := ?_) rfl (by kernel_rfl) (by kernel_rfl) (by kernel_rfl) (fun _ _ _ h => h) (Or.inl ⟨by rfl, ?_⟩) (by assumption) ?_
          rotate_left
          · (intro w hSw; (try dsimp only at hSw); first | (go_simp; done) | (go_simp; with_reducible rfl))
          simp only [Act.put, List.getElem_toArray, List.getElem_cons_zero, List.getElem_cons_succ, List.setIfInBounds_toArray, List.set_cons_zero, List.set_cons_succ]
          refine wpAnyH_take (i := 1) (v := ?_) rfl (by kernel_rfl) (by kernel_rfl) (by kernel_rfl) (fun _ _ _ h => h) (Or.inl ⟨by rfl, ?_⟩) (by assumption) ?_
          rotate_left
          · (intro w hSw; (try dsimp only at hSw); first | (go_simp; done) | (go_simp; with_reducible rfl))
          simp only [Act.put, List.getElem_toArray, List.getElem_cons_zero, List.getElem_cons_succ, List.setIfInBounds_toArray, List.set_cons_zero, List.set_cons_succ]
          refine wpAnyH_take (i := 2) (v := ?_) rfl (by kernel_rfl) (by kernel_rfl) (by kernel_rfl) (fun _ _ _ h => h) (Or.inl ⟨by rfl, ?_⟩) (by assumption) ?_
          rotate_left
          · (intro w hSw; (try dsimp only at hSw); first | (go_simp; done) | (go_simp; with_reducible rfl))
          simp only [Act.put, List.getElem_toArray, List.getElem_cons_zero, List.getElem_cons_succ, List.setIfInBounds_toArray, List.set_cons_zero, List.set_cons_succ]
          refine wpAnyH_take (i := 3) (v := ?_) rfl (by kernel_rfl) (by kernel_rfl) (by kernel_rfl) (fun _ _ _ h => h) (Or.inl ⟨by rfl, ?_⟩) (by assumption) ?_
          rotate_left
          · (intro w hSw; (try dsimp only at hSw); first | (go_simp; done) | (go_simp; with_reducible rfl))
          simp only [Act.put, List.getElem_toArray, List.getElem_cons_zero, List.getElem_cons_succ, List.setIfInBounds_toArray, List.set_cons_zero, List.set_cons_succ]
          refine wpAnyH_take (i := 4) (v := ?_) rfl (by kernel_rfl) (by kernel_rfl) (by kernel_rfl) (fun _ _ _ h => h) (Or.inl ⟨by rfl, ?_⟩) (by assumption) ?_
          rotate_left
          · (intro w hSw; (try dsimp only at hSw); first | (go_simp; done) | (go_simp; with_reducible rfl))
          simp only [Act.put, List.getElem_toArray, List.getElem_cons_zero, List.getElem_cons_succ, List.setIfInBounds_toArray, List.set_cons_zero, List.set_cons_succ]
          refine wpAnyH_take (i := 5) (v := ?_) rfl (by kernel_rfl) (by kernel_rfl) (by kernel_rfl) (fun _ _ _ h => h) (Or.inl ⟨by rfl, ?_⟩) (by assumption) ?_
          rotate_left
          · (intro w hSw; (try dsimp only at hSw); first | (go_simp; done) | (go_simp; with_reducible rfl))
          simp only [Act.put, List.getElem_toArray, List.getElem_cons_zero, List.getElem_cons_succ, List.setIfInBounds_toArray, List.set_cons_zero, List.set_cons_succ]
          refine wpAnyH_take (i := 6) (v := ?_) rfl (by kernel_rfl) (by kernel_rfl) (by kernel_rfl) (fun _ _ _ h => h) (Or.inl ⟨by rfl, ?_⟩) (by assumption) ?_
          rotate_left
          · (intro w hSw; (try dsimp only at hSw); first | (go_simp; done) | (go_simp; with_reducible rfl))
          simp only [Act.put, List.getElem_toArray, List.getElem_cons_zero, List.getElem_cons_succ, List.setIfInBounds_toArray, List.set_cons_zero, List.set_cons_succ]
          refine wpAnyH_take (i := 7) (v := ?_) rfl (by kernel_rfl) (by kernel_rfl) (by kernel_rfl) (fun _ _ _ h => h) (Or.inl ⟨by rfl, ?_⟩) (by assumption) ?_
          rotate_left
          · (intro w hSw; (try dsimp only at hSw); first | (go_simp; done) | (go_simp; with_reducible rfl))
          simp only [Act.put, List.getElem_toArray, List.getElem_cons_zero, List.getElem_cons_succ, List.setIfInBounds_toArray, List.set_cons_zero, List.set_cons_succ]
          refine wpAnyH_done (by kernel_rfl) ?_ _
          clear hHeld
          obtain ⟨z0, -, -, -, -, -, -, z7⟩ := LK.out _ DR.out
          have O5' := Lib.hid (O5.out.below (Below.refl w5.heap.size w5).drew)
          go_wp2_with fail
          refine ⟨⟨k + 1, _, rfl, by omega, by go_num, by rw [TK.out]; exact O5'.out, DR.out⟩, by simp [intOf]; omega⟩
      · rw [if_neg (by rw [PE.out]; intro e; injection e with e1 e2 e3; exact q3 e1)] at TK
        go_wp2_with fail
        refine wp_region_held_drew (S := fun ws => ws.cell? ⟨w.heap.size, 0, none⟩ = some (.slice (some ⟨bb, off, none⟩) L.length c) ∧ ws.cell? ⟨w.heap.size + 1, 0, none⟩ = some (.int .i64 p0) ∧ ws.cell? ⟨w.heap.size + 1, 1, none⟩ = some (.int .i64 p1) ∧ ws.cell? ⟨w.heap.size + 1, 2, none⟩ = some (.int .i64 p2) ∧ ws.cell? ⟨bb, off + k * 6 + 3, none⟩ = some (.int .i64 d3) ∧ ws.cell? ⟨bb, off + k * 6 + 4, none⟩ = some (.int .i64 d4) ∧ ws.cell? ⟨bb, off + k * 6 + 5, none⟩ = some (.int .i64 d5) ∧ ws.cell? ⟨bb, off + k * 6, none⟩ = some (.int .i64 d0)) (by kernel_rfl) (LK.out _ DR.out) (fun hHeld => ?_)
        refine wpAnyH_take (i := 0) (v := ?_) rfl (by kernel_rfl) (by kernel_rfl) (by kernel_rfl) (fun _ _ _ h => h) (Or.inl ⟨by rfl, ?_⟩) (by assumption) ?_
        rotate_left
        · (intro w hSw; (try dsimp only at hSw); first | (go_simp; done) | (go_simp; with_reducible rfl))
        simp only [Act.put, List.getElem_toArray, List.getElem_cons_zero, List.getElem_cons_succ, List.setIfInBounds_toArray, List.set_cons_zero, List.set_cons_succ]
        refine wpAnyH_take (i := 1) (v := ?_) rfl (by kernel_rfl) (by kernel_rfl) (by kernel_rfl) (fun _ _ _ h => h) (Or.inl ⟨by rfl, ?_⟩) (by assumption) ?_
        rotate_left
        · (intro w hSw; (try dsimp only at hSw); first | (go_simp; done) | (go_simp; with_reducible rfl))
        simp only [Act.put, List.getElem_toArray, List.getElem_cons_zero, List.getElem_cons_succ, List.setIfInBounds_toArray, List.set_cons_zero, List.set_cons_succ]
        refine wpAnyH_take (i := 2) (v := ?_) rfl (by kernel_rfl) (by kernel_rfl) (by kernel_rfl) (fun _ _ _ h => h) (Or.inl ⟨by rfl, ?_⟩) (by assumption) ?_
        rotate_left
        · (intro w hSw; (try dsimp only at hSw); first | (go_simp; done) | (go_simp; with_reducible rfl))
        simp only [Act.put, List.getElem_toArray, List.getElem_cons_zero, List.getElem_cons_succ, List.setIfInBounds_toArray, List.set_cons_zero, List.set_cons_succ]
        refine wpAnyH_take (i := 3) (v := ?_) rfl (by kernel_rfl) (by kernel_rfl) (by kernel_rfl) (fun _ _ _ h => h) (Or.inl ⟨by rfl, ?_⟩) (by assumption) ?_
        rotate_left
        · (intro w hSw; (try dsimp only at hSw); first | (go_simp; done) | (go_simp; with_reducible rfl))
        simp only [Act.put, List.getElem_toArray, List.getElem_cons_zero, List.getElem_cons_succ, List.setIfInBounds_toArray, List.set_cons_zero, List.set_cons_succ]
        refine wpAnyH_take (i := 4) (v := ?_) rfl (by kernel_rfl) (by kernel_rfl) (by kernel_rfl) (fun _ _ _ h => h) (Or.inl ⟨by rfl, ?_⟩) (by assumption) ?_
        rotate_left
        · (intro w hSw; (try dsimp only at hSw); first | (go_simp; done) | (go_simp; with_reducible rfl))
        simp only [Act.put, List.getElem_toArray, List.getElem_cons_zero, List.getElem_cons_succ, List.setIfInBounds_toArray, List.set_cons_zero, List.set_cons_succ]
        refine wpAnyH_take (i := 5) (v := ?_) rfl (by kernel_rfl) (by kernel_rfl) (by kernel_rfl) (fun _ _ _ h => h) (Or.inl ⟨by rfl, ?_⟩) (by assumption) ?_
        rotate_left
        · (intro w hSw; (try dsimp only at hSw); first | (go_simp; done) | (go_simp; with_reducible rfl))
        simp only [Act.put, List.getElem_toArray, List.getElem_cons_zero, List.getElem_cons_succ, List.setIfInBounds_toArray, List.set_cons_zero, List.set_cons_succ]
        refine wpAnyH_take (i := 6) (v := ?_) rfl (by kernel_rfl) (by kernel_rfl) (by kernel_rfl) (fun _ _ _ h => h) (Or.inl ⟨by rfl, ?_⟩) (by assumption) ?_
        rotate_left
        · (intro w hSw; (try dsimp only at hSw); first | (go_simp; done) | (go_simp; with_reducible rfl))
        simp only [Act.put, List.getElem_toArray, List.getElem_cons_zero, List.getElem_cons_succ, List.setIfInBounds_toArray, List.set_cons_zero, List.set_cons_succ]
        refine wpAnyH_take (i := 7) (v := ?_) rfl (by kernel_rfl) (by kernel_rfl) (by kernel_rfl) (fun _ _ _ h => h) (Or.inl ⟨by rfl, ?_⟩) (by assumption) ?_
        rotate_left
        · (intro w hSw; (try dsimp only at hSw); first | (go_simp; done) | (go_simp; with_reducible rfl))
        simp only [Act.put, List.getElem_toArray, List.getElem_cons_zero, List.getElem_cons_succ, List.setIfInBounds_toArray, List.set_cons_zero, List.set_cons_succ]
        refine wpAnyH_done (by kernel_rfl) ?_ _
        clear hHeld
        obtain ⟨z0, -, -, -, -, -, -, z7⟩ := LK.out _ DR.out
        have O5' := Lib.hid (O5.out.below (Below.refl w5.heap.size w5).drew)
        go_wp2_with fail
        refine ⟨⟨k + 1, _, rfl, by omega, by go_num, by rw [TK.out]; exact O5'.out, DR.out⟩, by simp [intOf]; omega⟩
    · obtain rfl : k = L.length := by omega
      obtain ⟨Av, cv, rfl, -⟩ := O5.out.open_
      have B0 := Lib.hid (up M.out hb5 M.out.size)
      clear hown hb5
      go_wp2_with fail
      go_ret
      exact ⟨_, rfl, O5.out.mono M.out.size, B0.out⟩
end Go.Proofs.Ytckdfdnhoionnaa.tg
