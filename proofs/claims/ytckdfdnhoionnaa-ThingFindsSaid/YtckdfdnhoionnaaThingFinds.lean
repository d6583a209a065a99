/-
  ThingFinds (P21.1): whatever calls are handed in, the law answers true: Get tells of the thing with a number, Of and Owned of those of a house and of an owner, in order.
  Conditions: none.
-/
import Derived.Test.YtckdfdnhoionnaaTgS
namespace Go.Proofs.Ytckdfdnhoionnaa.thingFinds
open Go.ChangeShapes Go.WideShapes Go.ChangeAt Go.RowKit
open base (ret_bool ret_int made up Blk Only)
open rk mk il nm tg
set_option linter.unusedVariables false
set_option linter.unusedSimpArgs false

/-- two slices that own no block together -/
def Ap (v1 v2 : Value) : Prop := ∀ k, v1.ownBlock = some k → v2.ownBlock ≠ some k
theorem Ap.symm {v1 v2 : Value} (h : Ap v1 v2) : Ap v2 v1 := fun k h2 h1 => h k h1 h2
theorem push2 {w w' : World} {Q : Nat} {t : TypeId} {v1 v2 v1' : Value} {L1 L1' L2 : List Th} (h1 : rk.Own E6 w Q t v1 L1) (h2 : rk.Own E6 w Q t v2 L2) (ap : Ap v1 v2) (hg : Grew w w' v1 v1') (h3 : rk.Own E6 w' Q t v1' L1') : rk.Own E6 w' Q t v2 L2 ∧ Ap v1' v2 := by
  refine ⟨h2.keep (fun k hk => hg.grown.block k (rk.Own.lt' h2 k hk).2.1 (fun e => ap k e.symm hk)), fun k hk hk2 => ?_⟩
  rcases hg.at_ with e | e
  · exact ap k (e ▸ hk) hk2
  · rw [e] at hk
    injection hk with hk
    have := (rk.Own.lt' h2 k hk2).2.1
    omega

theorem told_of {w : World} {B g m K : Nat} {L : List Th} {nx : Int} (n : Int) {bt bi b : Nat} {A : Option Addr} {c : Nat} {M : List Th} (H : TAt w B g m L nx K) (hl : L.length ≤ 99000) (hb1 : Blk w bt 23 #[.pointer (some ⟨g, 0, none⟩)]) (hb2 : Blk w bi 82 #[.func (.func 39) #[] #[.pointer (some ⟨b, 0, none⟩)]])
    (hb3 : Blk w b 3 #[.int .i64 n]) (hM : M = sel (prOf n) L) (hA : Lay E6 w A M) :
    Calls Try.prog 19 #[.func (.func 51) #[] #[.pointer (some ⟨bt, 0, none⟩), .pointer (some ⟨bi, 0, none⟩)], .slice A M.length c] w fun e w' => e = .returned (.bool true) ∧ Below w.heap.size w w' :=
  told_any (prOf n) bt bi 39 #[.pointer (some ⟨b, 0, none⟩)] A c M hl H hb1 hb2 (fun d wt h => is_of d n b wt (hb3.below h hb3.lt)) (enters_of Try.func39 (by kernel_rfl) rfl) hM hA
theorem told_owned {w : World} {B g m K : Nat} {L : List Th} {nx : Int} (n : Int) {bt bi b : Nat} {A : Option Addr} {c : Nat} {M : List Th} (H : TAt w B g m L nx K) (hl : L.length ≤ 99000) (hb1 : Blk w bt 23 #[.pointer (some ⟨g, 0, none⟩)]) (hb2 : Blk w bi 82 #[.func (.func 40) #[] #[.pointer (some ⟨b, 0, none⟩)]])
    (hb3 : Blk w b 3 #[.int .i64 n]) (hM : M = sel (prOwned n) L) (hA : Lay E6 w A M) :
    Calls Try.prog 19 #[.func (.func 51) #[] #[.pointer (some ⟨bt, 0, none⟩), .pointer (some ⟨bi, 0, none⟩)], .slice A M.length c] w fun e w' => e = .returned (.bool true) ∧ Below w.heap.size w w' :=
  told_any (prOwned n) bt bi 40 #[.pointer (some ⟨b, 0, none⟩)] A c M hl H hb1 hb2 (fun d wt h => is_owned d n b wt (hb3.below h hb3.lt)) (enters_of Try.func40 (by kernel_rfl) rfl) hM hA
set_option maxHeartbeats 2000000 in
theorem walk_no (w : World) (A : Option Addr) (c : Nat) (D : List OpR) (n : Int) (hA : Lay EO w A D) (hD : ∀ o ∈ D, o.Ok) (hl : D.length ≤ 9223372036854775807) (hs : smallB D 80 = false) :
    Calls Try.prog 4 #[.slice A D.length c, .int .i64 n] w (ClP true w) := by
  have N := Lib.hid (new_any w)
  have SM := Lib.hid (fun ws (h : Below w.heap.size w ws) => small_any A c D 80 ws (hA.below h) hD hl)
  rw [hs] at SM
  have AW := Lib.hid (fun ws => awake_any ws)
  clear hA hD
  go_enter Try.func4, Try.ntmps4
  go_wp2_with fail
  refine N.out.mono ?_
  rintro e w1 ⟨rfl, -, hb1⟩
  have B1 := Lib.hid hb1
  clear hb1
  go_wp2_with fail
  refine (SM.out _ B1.out).mono ?_
  rintro e w2 ⟨rfl, hb2⟩
  have B2 := Lib.hid (up B1.out hb2 B1.out.size)
  clear hb2
  go_wp2_with fail
  refine (AW.out _).mono ?_
  rintro e w3 ⟨rfl, hb3⟩
  have B3 := Lib.hid (up B2.out hb3 B2.out.size)
  clear hb3
  go_wp2_with fail
  go_ret
  exact ⟨rfl, B3.out⟩

set_option maxRecDepth 100000 in
set_option maxHeartbeats 8000000 in
theorem walk_yes (w : World) (A : Option Addr) (c : Nat) (D : List OpR) (n : Int) (hA : Lay EO w A D) (hD : ∀ o ∈ D, o.Ok) (hs : smallB D 80 = true) :
    Calls Try.prog 4 #[.slice A D.length c, .int .i64 n] w (ClP true w) := by
  have hl := small_len hs
  have N := Lib.hid (new_any w)
  have SM := Lib.hid (fun ws (h : Below w.heap.size w ws) => small_any A c D 80 ws (hA.below h) hD (by omega))
  rw [hs] at SM
  have AW := Lib.hid (fun ws => awake_any ws)
  have HA := Lib.hid hA
  have HD := Lib.hid hD
  clear hA hD hs
  go_enter Try.func4, Try.ntmps4
  go_wp2_with fail
  refine N.out.mono ?_
  rintro e w1 ⟨rfl, ht1, hb1⟩
  have B1 := Lib.hid hb1
  have T1 := Lib.hid ht1
  clear hb1 ht1 N
  go_wp2_with fail
  refine (SM.out _ B1.out).mono ?_
  rintro e w2 ⟨rfl, hb2⟩
  have hmx := made w2 (.cells #[.slice none 0 0, .int .i64 1] 29)
  have B2 := up B1.out hb2 B1.out.size
  have BX3 := Lib.hid (Blk.new w2 29 #[.slice none 0 0, .int .i64 1])
  have B3 := Lib.hid (up B2 hmx B2.size)
  have T3 := Lib.hid ((T1.out.below hb2).below hmx)
  have LX := Lib.hid (show w.heap.size + 2 ≤ w2.heap.size from by have := hb2.size; have := T1.out.lt; omega)
  obtain ⟨xb, hxb⟩ : ∃ xb, xb = w2.heap.size := ⟨_, rfl⟩
  clear hb2 hmx B2 SM B1 T1
  go_wp2_with fail
  generalize w2.alloc (.cells #[.slice none 0 0, .int .i64 1] 29) = w3 at *
  rw [← hxb] at BX3 LX
  rw [← hxb]
  clear hxb
  go_loopw [32] (fun i wr => ∃ (k : Nat) (W : World) (L : List Th) (nx : Int) (Ax : Option Addr) (cx : Nat), W = wr ∧ k ≤ D.length ∧ i = .int .i64 k ∧ Blk wr xb 29 #[.slice Ax L.length cx, .int .i64 nx] ∧ TAt wr w.heap.size (w.heap.size + 1) w.heap.size L nx (2 * k) ∧ rk.Own E6 wr w.heap.size 43 (.slice Ax L.length cx) L ∧ Below w.heap.size w wr ∧ L.length ≤ k ∧ nx ≤ k + 1 ∧ Gd (L, nx)) (fun i _ => D.length - (intOf i).toNat)
  case atStart => exact ⟨0, _, [], 1, none, 0, rfl, by omega, rfl, BX3.out, T3.out, rk.Own.nil _ _ _, B3.out, by simp, by omega, Gd.nil⟩
  case round =>
  obtain ⟨k, w4, L, nx, Ax, cx, rfl, hk, rfl, hbx, ht, ho, hb, hll, hnx, hgd⟩ := hrel
  have BX4 := Lib.hid hbx
  have T4 := Lib.hid ht
  have O4 := Lib.hid ho
  have B4 := Lib.hid hb
  have G4 := Lib.hid hgd
  have x0 := hbx.cell 0
  have x1 := hbx.cell 1
  clear BX3 T3 B3
  by_cases hkl : k < D.length
  · obtain ⟨bb, off, rfl, e0, e1, e2, e3, e4, e5, e6⟩ := lay7 (HA.out.below hb) hkl
    have OK := Lib.hid (HD.out _ (List.getElem_mem hkl))
    generalize D[k] = d at *
    have SZ := Lib.hid (step_size (L, nx) d)
    have GS := Lib.hid (G4.out.step d OK.out (by omega))
    have ST := Lib.hid (fun ws (h1 : TAt ws w.heap.size (w.heap.size + 1) w.heap.size L nx (2 * k)) (h2 : rk.Own E6 ws w.heap.size 43 (.slice Ax L.length cx) L) (h3 : w.heap.size ≤ ws.heap.size) => step_any Ax cx d OK.out ws h1 h2 G4.out (by omega) (by omega) h3)
    have WP := Lib.hid OK.out.wp
    generalize stepS (L, nx) d = r at *
    obtain ⟨L2, n2⟩ := r
    clear hbx ht ho hb hgd
    obtain ⟨d0, d1, d2, d3, d4, d5, d6⟩ := d
    dsimp only [OpR.pc] at e0 e1 e2 e3 e4 e5 e6 SZ GS ST WP
    have hm5 := made w4 (.cells #[.int .i64 d0, .int .i64 d1, .int .i64 d2, .string d3, .int .i64 d4, .int .i64 d5, .int .i64 d6] 33)
    have bo5 : Blk (w4.alloc (.cells #[.int .i64 d0, .int .i64 d1, .int .i64 d2, .string d3, .int .i64 d4, .int .i64 d5, .int .i64 d6] 33)) w4.heap.size 33 #[.int .i64 d0, .int .i64 d1, .int .i64 d2, .string d3, .int .i64 d4, .int .i64 d5, .int .i64 d6] := Blk.new _ _ _
    have BO5 := Lib.hid bo5
    have BX5 := Lib.hid (BX4.out.below hm5 BX4.out.lt)
    have T5 := Lib.hid (T4.out.below hm5)
    have O5 := Lib.hid (O4.out.below hm5)
    have B5 := Lib.hid (up B4.out hm5 B4.out.size)
    have LT := Lib.hid BX4.out.lt
    have o0 := bo5.cell 0
    have o1 := bo5.cell 1
    have o2 := bo5.cell 2
    have o3 := bo5.cell 3
    have o4 := bo5.cell 4
    have o5 := bo5.cell 5
    have o6 := bo5.cell 6
    have x0 := BX5.out.cell 0
    have x1 := BX5.out.cell 1
    clear hm5 bo5
    go_wp2_with fail
    generalize w4.alloc (.cells #[.int .i64 d0, .int .i64 d1, .int .i64 d2, .string d3, .int .i64 d4, .int .i64 d5, .int .i64 d6] 33) = w5 at *
    refine (ST.out _ T5.out O5.out B5.out.size).mono ?_
    rintro e w6 ⟨v6, rfl, ho6, ht6, hc6⟩
    obtain ⟨A6, c6, rfl, -⟩ := ho6.open_
    have hsz := SZ.out
    try dsimp only at hsz
    have BO6 := hc6.blk BO5.out (by rfl)
    have BX6 := hc6.blk BX5.out (by rfl)
    have B6 := B5.out.trans (hc6.to B5.out.size)
    have S7 : Only (fun j => j = xb) w6 ((w6.setCell ⟨xb, 0, none⟩ (.slice A6 L2.length c6)).setCell ⟨xb, 1, none⟩ (.int .i64 n2)) := ((Only.refl (fun j => j = xb) w6).setCell (p := ⟨xb, 0, none⟩) (.inl rfl) _).setCell (p := ⟨xb, 1, none⟩) (.inl rfl) _
    have BO7 := Lib.hid (BO6.only S7 (by have := LT.out; omega))
    have BX7 := Lib.hid (blk2 BX6 (.slice A6 L2.length c6) (.int .i64 n2))
    have O7 := Lib.hid (own2 ho6 BX6 (by decide) (.slice A6 L2.length c6) (.int .i64 n2))
    have T7 := Lib.hid (ht6.ch BX6 (by decide) (by decide) (by decide) (.slice A6 L2.length c6) (.int .i64 n2))
    have B7 := Lib.hid (below2 B6 (r := xb) (by have := LX.out; omega) (.slice A6 L2.length c6) (.int .i64 n2))
    have r0 := BX6.cell 0
    have r1 := BX6.cell 1
    have f0 := BX6.free 0
    have f1 := BX6.free 1
    clear ho6 ht6 hc6 BO6 BX6 B6 S7 e0 e1 e2 e3 e4 e5 e6 o0 o1 o2 o3 o4 o5 o6 x0 x1 ST BX4 T4 O4 B4 BX5 T5 O5 B5 BO5
    go_wp2_with fail
    generalize (w6.setCell ⟨xb, 0, none⟩ (.slice A6 L2.length c6)).setCell ⟨xb, 1, none⟩ (.int .i64 n2) = w7 at *
    clear r0 r1 f0 f1
    refine ⟨⟨k + 1, _, L2, n2, A6, c6, rfl, by omega, by go_num, BX7.out, T7.out.mono (by omega), O7.out, B7.out, by omega, by omega, GS.out⟩, by simp [intOf]; omega⟩
  · obtain rfl : k = D.length := by omega
    clear hbx ht ho hb hgd
    have hll' : L.length ≤ 80 := by omega
    have LW := Lib.hid (fun ws (h : Below w4.heap.size w4 ws) => (own_lay O4.out).below h)
    have GE := Lib.hid (fun ws (h : Below w4.heap.size w4 ws) => get_any n (T4.out.below h) G4.out (by omega))
    have RF := Lib.hid (fun ws (h : Below w4.heap.size w4 ws) => rfind_any Ax cx L nx n ws (LW.out ws h) (by omega))
    have FL := Lib.hid (fun i (h : fi (isId n) L = some i) => fi_lt h)
    have MO := Lib.hid (fun ws => of_make (g := w.heap.size + 1) n ws)
    have MW := Lib.hid (fun ws => owned_make (g := w.heap.size + 1) n ws)
    have TL1 := Lib.hid (fun ws (h : Below w4.heap.size w4 ws) bt bi b (M : List Th) A c h1 h2 h3 hM hA => told_of n (bt := bt) (bi := bi) (b := b) (A := A) (c := c) (M := M) (T4.out.below h) (by omega) h1 h2 h3 hM hA)
    have TL2 := Lib.hid (fun ws (h : Below w4.heap.size w4 ws) bt bi b (M : List Th) A c h1 h2 h3 hM hA => told_owned n (bt := bt) (bi := bi) (b := b) (A := A) (c := c) (M := M) (T4.out.below h) (by omega) h1 h2 h3 hM hA)
    have TK1 := Lib.hid (fun j (hj : j < L.length) => sel_snoc (prOf n) L hj)
    have TK2 := Lib.hid (fun j (hj : j < L.length) => sel_snoc (prOwned n) L hj)
    have TE1 := Lib.hid (show sel (prOf n) (L.take L.length) = sel (prOf n) L by rw [List.take_length])
    have TE2 := Lib.hid (show sel (prOwned n) (L.take L.length) = sel (prOwned n) L by rw [List.take_length])
    have TN1 := Lib.hid (fun j => Nat.le_trans (List.length_filter_le (prOf n) (L.take j)) (List.length_take_le' j L))
    have TN2 := Lib.hid (fun j => Nat.le_trans (List.length_filter_le (prOwned n) (L.take j)) (List.length_take_le' j L))
    have TZ1 := Lib.hid (show sel (prOf n) (L.take 0) = [] from rfl)
    have TZ2 := Lib.hid (show sel (prOwned n) (L.take 0) = [] from rfl)
    obtain ⟨J1, hJ1⟩ : ∃ J : Nat → List Th, J = fun k => sel (prOf n) (L.take k) := ⟨_, rfl⟩
    obtain ⟨J2, hJ2⟩ : ∃ J : Nat → List Th, J = fun k => sel (prOwned n) (L.take k) := ⟨_, rfl⟩
    have q1 : ∀ k, sel (prOf n) (L.take k) = J1 k := fun k => by rw [hJ1]
    have q2 : ∀ k, sel (prOwned n) (L.take k) = J2 k := fun k => by rw [hJ2]
    have q3 : ∀ k, List.filter (prOf n) (L.take k) = J1 k := q1
    have q4 : ∀ k, List.filter (prOwned n) (L.take k) = J2 k := q2
    simp only [q1, q2, q3, q4] at TK1 TK2 TE1 TE2 TN1 TN2 TZ1 TZ2
    clear q1 q2 q3 q4 hJ1 hJ2
    go_wp2_with fail
    clear x0 x1
    go_loopw [9, 10, 47] (fun v9 v10 i wr => ∃ (j : Nat) (W : World), W = wr ∧ j ≤ L.length ∧ i = .int .i64 j ∧ rk.Own E6 wr w4.heap.size 43 v9 (J1 j) ∧ rk.Own E6 wr w4.heap.size 43 v10 (J2 j) ∧ Ap v9 v10 ∧ Below w4.heap.size w4 wr) (fun _ _ i _ => L.length - (intOf i).toNat)
    case atStart => exact ⟨0, _, rfl, by omega, rfl, by rw [TZ1.out]; exact rk.Own.nil _ _ _, by rw [TZ2.out]; exact rk.Own.nil _ _ _, (fun k hk => by cases hk), Below.refl _ _⟩
    case round =>
    obtain ⟨j, w5, rfl, hj, rfl, ho1, ho2, hap, hb5⟩ := hrel
    have B5 := Lib.hid hb5
    have AP := Lib.hid hap
    have O1 := Lib.hid ho1
    have O2 := Lib.hid ho2
    obtain ⟨A9, c9, rfl, -⟩ := ho1.open_
    obtain ⟨A10, c10, rfl, -⟩ := ho2.open_
    by_cases hjl : j < L.length
    · obtain ⟨bb, off, rfl, e0, e1, e2, e3, e4, e5⟩ := lay6 (LW.out _ hb5) hjl
      have hm6 := made w5 (.cells #[.int .i64 L[j].id, .string L[j].nm, .int .i64 L[j].ow, .int .i64 L[j].kd, .int .i64 L[j].hs, .int .i64 L[j].sl] 43)
      have B6 := Lib.hid (up B5.out hm6 B5.out.size)
      have BY := Lib.hid (Blk.new w5 43 #[.int .i64 L[j].id, .string L[j].nm, .int .i64 L[j].ow, .int .i64 L[j].kd, .int .i64 L[j].hs, .int .i64 L[j].sl])
      have NE := Lib.hid (show ∀ k, (Value.slice A9 (J1 j).length c9).ownBlock = some k → k ≠ w5.heap.size from fun k hk e => by have := (rk.Own.lt' ho1 k hk).2.1; omega)
      have P1 := Lib.hid (ho1.below hm6)
      have P2 := Lib.hid (ho2.below hm6)
      have TA := Lib.hid (TK1.out j hjl)
      have TB := Lib.hid (TK2.out j hjl)
      have S1 := Lib.hid (show (J1 j).length + 1 ≤ 100000000 by have := TN1.out j; omega)
      have S2 := Lib.hid (show (J2 j).length + 1 ≤ 100000000 by have := TN2.out j; omega)
      clear hb5 hm6 ho1 ho2 hap
      generalize L[j] = d at *
      have R1 := Lib.hid (show prOf n d = (!(d.kd == 1) && (d.hs == n)) from rfl)
      have R2 := Lib.hid (show prOwned n d = (d.ow == n) from rfl)
      generalize prOf n d = r1 at *
      generalize prOwned n d = r2 at *
      obtain ⟨d0, d1, d2, d3, d4, d5⟩ := d
      dsimp only at e0 e1 e2 e3 e4 e5 B6 BY P1 P2 TA TB R1 R2
      generalize hw6 : w5.alloc (.cells #[.int .i64 d0, .string d1, .int .i64 d2, .int .i64 d3, .int .i64 d4, .int .i64 d5] 43) = w6 at *
      have y0 := BY.out.cell 0
      have y1 := BY.out.cell 1
      have y2 := BY.out.cell 2
      have y3 := BY.out.cell 3
      have y4 := BY.out.cell 4
      have y5 := BY.out.cell 5
      by_cases q1 : d3 = 1
      · have q2 : (d3 != 1) = false := by simp [q1]
        rw [show (d3 == 1) = true by simp [q1], Bool.not_true, Bool.false_and] at R1
        obtain rfl := R1.out
        rw [if_neg (by decide)] at TA
        clear q1 R1
        by_cases q5 : d2 = n
        · have q6 : (d2 == n) = true := by simpa using q5
          rw [q6] at R2
          obtain rfl := R2.out
          rw [if_pos rfl] at TB
          clear q5 R2
          have O6 := Lib.hid (P2.out.below (made w6 (.cells #[.int .i64 d0, .string d1, .int .i64 d2, .int .i64 d3, .int .i64 d4, .int .i64 d5] 43)))
          have V6 := Lib.hid (P1.out.below (made w6 (.cells #[.int .i64 d0, .string d1, .int .i64 d2, .int .i64 d3, .int .i64 d4, .int .i64 d5] 43)))
          have LY := Lib.hid (Lay.lit (E := E6) (w6.alloc (.cells #[.int .i64 d0, .string d1, .int .i64 d2, .int .i64 d3, .int .i64 d4, .int .i64 d5] 43)) ⟨d0, d1, d2, d3, d4, d5⟩ 43 w6.heap.size (Blk.new _ _ _))
          have B8 := Lib.hid (up B6.out (made w6 (.cells #[.int .i64 d0, .string d1, .int .i64 d2, .int .i64 d3, .int .i64 d4, .int .i64 d5] 43)) B6.out.size)
          go_wp2_with (first | rw [hw6] | ((with_reducible show wpList _ _ _ (⟨some 73, _, _, _, _, _⟩ :: _) _ _); go_must (refine wp_app TR (c := 1) (n := 1) rfl _ _ rfl rfl rfl rfl rfl O6.out LY.out S2.out B8.out.size ?_)))
          intro v8 w8 own8 gr8
          have B9 := Lib.hid (B8.out.trans (gr8.below O6.out B8.out.size))
          have PP := push2 O6.out V6.out AP.out.symm gr8 own8
          rw [← TB.out] at own8
          have O8 := Lib.hid own8
          have V8 := Lib.hid PP.1
          have X8 := Lib.hid PP.2.symm
          obtain ⟨A8, c8, rfl, -⟩ := own8.open_
          clear own8 gr8 PP O6 V6 LY B8 e0 e1 e2 e3 e4 e5 y0 y1 y2 y3 y4 y5
          go_wp2_with fail
          refine ⟨⟨j + 1, _, rfl, by omega, by go_num, by rw [TA.out]; exact V8.out, O8.out, X8.out, B9.out⟩, by simp [intOf]; omega⟩
        · have q6 : (d2 == n) = false := by simpa using q5
          rw [q6] at R2
          obtain rfl := R2.out
          rw [if_neg (by decide)] at TB
          clear q5 R2
          go_wp2_with (rw [hw6])
          refine ⟨⟨j + 1, _, rfl, by omega, by go_num, by rw [TA.out]; exact P1.out, by rw [TB.out]; exact P2.out, AP.out, B6.out⟩, by simp [intOf]; omega⟩
      · have q2 : (d3 != 1) = true := by simp [q1]
        rw [show (d3 == 1) = false by simp [q1], Bool.not_false, Bool.true_and] at R1
        clear q1
        by_cases q3 : d4 = n
        · have q4 : (d4 == n) = true := by simpa using q3
          rw [q4] at R1
          obtain rfl := R1.out
          rw [if_pos rfl] at TA
          clear q3 R1
          have O6 := Lib.hid (P1.out.below (made w6 (.cells #[.int .i64 d0, .string d1, .int .i64 d2, .int .i64 d3, .int .i64 d4, .int .i64 d5] 43)))
          have V6 := Lib.hid (P2.out.below (made w6 (.cells #[.int .i64 d0, .string d1, .int .i64 d2, .int .i64 d3, .int .i64 d4, .int .i64 d5] 43)))
          have LY := Lib.hid (Lay.lit (E := E6) (w6.alloc (.cells #[.int .i64 d0, .string d1, .int .i64 d2, .int .i64 d3, .int .i64 d4, .int .i64 d5] 43)) ⟨d0, d1, d2, d3, d4, d5⟩ 43 w6.heap.size (Blk.new _ _ _))
          have B7 := Lib.hid (up B6.out (made w6 (.cells #[.int .i64 d0, .string d1, .int .i64 d2, .int .i64 d3, .int .i64 d4, .int .i64 d5] 43)) B6.out.size)
          have BZ := Lib.hid (BY.out.below (made w6 (.cells #[.int .i64 d0, .string d1, .int .i64 d2, .int .i64 d3, .int .i64 d4, .int .i64 d5] 43)) BY.out.lt)
          go_wp2_with (first | rw [hw6] | ((with_reducible show wpList _ _ _ (⟨some 65, _, _, _, _, _⟩ :: _) _ _); go_must (refine wp_app TR (c := 1) (n := 1) rfl _ _ rfl rfl rfl rfl rfl O6.out LY.out S1.out B7.out.size ?_)))
          intro v7 w7 own7 gr7
          have B7' := Lib.hid (B7.out.trans (gr7.below O6.out B7.out.size))
          have PP := push2 O6.out V6.out AP.out gr7 own7
          have BY7 := Lib.hid (BZ.out.grown gr7.grown (fun e => NE.out _ e.symm rfl))
          rw [← TA.out] at own7
          have O7 := Lib.hid own7
          have V7 := Lib.hid PP.1
          have X7 := Lib.hid PP.2
          obtain ⟨A7, c7, rfl, -⟩ := own7.open_
          clear own7 gr7 PP O6 V6 LY B7 y0 y1 y2 y3 y4 y5
          have y0 := BY7.out.cell 0
          have y1 := BY7.out.cell 1
          have y2 := BY7.out.cell 2
          have y3 := BY7.out.cell 3
          have y4 := BY7.out.cell 4
          have y5 := BY7.out.cell 5
          by_cases q5 : d2 = n
          · have q6 : (d2 == n) = true := by simpa using q5
            rw [q6] at R2
            obtain rfl := R2.out
            rw [if_pos rfl] at TB
            clear q5 R2
            have O6 := Lib.hid (V7.out.below (made w7 (.cells #[.int .i64 d0, .string d1, .int .i64 d2, .int .i64 d3, .int .i64 d4, .int .i64 d5] 43)))
            have V6 := Lib.hid (O7.out.below (made w7 (.cells #[.int .i64 d0, .string d1, .int .i64 d2, .int .i64 d3, .int .i64 d4, .int .i64 d5] 43)))
            have LY := Lib.hid (Lay.lit (E := E6) (w7.alloc (.cells #[.int .i64 d0, .string d1, .int .i64 d2, .int .i64 d3, .int .i64 d4, .int .i64 d5] 43)) ⟨d0, d1, d2, d3, d4, d5⟩ 43 w7.heap.size (Blk.new _ _ _))
            have B8 := Lib.hid (up B7'.out (made w7 (.cells #[.int .i64 d0, .string d1, .int .i64 d2, .int .i64 d3, .int .i64 d4, .int .i64 d5] 43)) B7'.out.size)
            go_wp2_with (((with_reducible show wpList _ _ _ (⟨some 73, _, _, _, _, _⟩ :: _) _ _); go_must (refine wp_app TR (c := 1) (n := 1) rfl _ _ rfl rfl rfl rfl rfl O6.out LY.out S2.out B8.out.size ?_)))
            intro v8 w8 own8 gr8
            have B9 := Lib.hid (B8.out.trans (gr8.below O6.out B8.out.size))
            have PP := push2 O6.out V6.out X7.out.symm gr8 own8
            rw [← TB.out] at own8
            have O8 := Lib.hid own8
            have V8 := Lib.hid PP.1
            have X8 := Lib.hid PP.2.symm
            obtain ⟨A8, c8, rfl, -⟩ := own8.open_
            clear own8 gr8 PP O6 V6 LY B8 e0 e1 e2 e3 e4 e5 y0 y1 y2 y3 y4 y5
            go_wp2_with fail
            refine ⟨⟨j + 1, _, rfl, by omega, by go_num, V8.out, O8.out, X8.out, B9.out⟩, by simp [intOf]; omega⟩
          · have q6 : (d2 == n) = false := by simpa using q5
            rw [q6] at R2
            obtain rfl := R2.out
            rw [if_neg (by decide)] at TB
            clear q5 R2
            go_wp2_with fail
            refine ⟨⟨j + 1, _, rfl, by omega, by go_num, O7.out, by rw [TB.out]; exact V7.out, X7.out, B7'.out⟩, by simp [intOf]; omega⟩
        · have q4 : (d4 == n) = false := by simpa using q3
          rw [q4] at R1
          obtain rfl := R1.out
          rw [if_neg (by decide)] at TA
          clear q3 R1
          by_cases q5 : d2 = n
          · have q6 : (d2 == n) = true := by simpa using q5
            rw [q6] at R2
            obtain rfl := R2.out
            rw [if_pos rfl] at TB
            clear q5 R2
            have O6 := Lib.hid (P2.out.below (made w6 (.cells #[.int .i64 d0, .string d1, .int .i64 d2, .int .i64 d3, .int .i64 d4, .int .i64 d5] 43)))
            have V6 := Lib.hid (P1.out.below (made w6 (.cells #[.int .i64 d0, .string d1, .int .i64 d2, .int .i64 d3, .int .i64 d4, .int .i64 d5] 43)))
            have LY := Lib.hid (Lay.lit (E := E6) (w6.alloc (.cells #[.int .i64 d0, .string d1, .int .i64 d2, .int .i64 d3, .int .i64 d4, .int .i64 d5] 43)) ⟨d0, d1, d2, d3, d4, d5⟩ 43 w6.heap.size (Blk.new _ _ _))
            have B8 := Lib.hid (up B6.out (made w6 (.cells #[.int .i64 d0, .string d1, .int .i64 d2, .int .i64 d3, .int .i64 d4, .int .i64 d5] 43)) B6.out.size)
            go_wp2_with (first | rw [hw6] | ((with_reducible show wpList _ _ _ (⟨some 73, _, _, _, _, _⟩ :: _) _ _); go_must (refine wp_app TR (c := 1) (n := 1) rfl _ _ rfl rfl rfl rfl rfl O6.out LY.out S2.out B8.out.size ?_)))
            intro v8 w8 own8 gr8
            have B9 := Lib.hid (B8.out.trans (gr8.below O6.out B8.out.size))
            have PP := push2 O6.out V6.out AP.out.symm gr8 own8
            rw [← TB.out] at own8
            have O8 := Lib.hid own8
            have V8 := Lib.hid PP.1
            have X8 := Lib.hid PP.2.symm
            obtain ⟨A8, c8, rfl, -⟩ := own8.open_
            clear own8 gr8 PP O6 V6 LY B8 e0 e1 e2 e3 e4 e5 y0 y1 y2 y3 y4 y5
            go_wp2_with fail
            refine ⟨⟨j + 1, _, rfl, by omega, by go_num, by rw [TA.out]; exact V8.out, O8.out, X8.out, B9.out⟩, by simp [intOf]; omega⟩
          · have q6 : (d2 == n) = false := by simpa using q5
            rw [q6] at R2
            obtain rfl := R2.out
            rw [if_neg (by decide)] at TB
            clear q5 R2
            go_wp2_with (rw [hw6])
            refine ⟨⟨j + 1, _, rfl, by omega, by go_num, by rw [TA.out]; exact P1.out, by rw [TB.out]; exact P2.out, AP.out, B6.out⟩, by simp [intOf]; omega⟩
    · obtain rfl : j = L.length := by omega
      clear ho1 ho2 hap hb5
      have GG := Lib.hid (GE.out _ B5.out)
      have FI := Lib.hid (fun i (h : fi (isId n) L = some i) => (show ∃ h' : i < L.length, gat L (fi (isId n) L) = L[i] from ⟨fi_lt h, by rw [h]; exact getD_of (fi_lt h)⟩))
      have FO := Lib.hid (fun (h : fi (isId n) L = none) => (show gat L (fi (isId n) L) = dflt by rw [h]; rfl))
      generalize gat L (fi (isId n) L) = d at *
      generalize fi (isId n) L = o at *
      cases o with
      | none =>
        obtain rfl := FO.out rfl
        clear FI FO FL
        dsimp only [Option.isSome_none, ix, tv, dflt] at GG RF
        have HZ := Lib.hid (show (if false = true then (0 : Int) else 14) = 14 from rfl)
        try rw [HZ.out] at GG
        go_wp2_with fail
        refine GG.out.mono ?_
        rintro e w6 ⟨rfl, hb6⟩
        have hm7 := made w6 (.cells #[.int .i64 0, .string ⟨#[]⟩, .int .i64 0, .int .i64 0, .int .i64 0, .int .i64 0] 46)
        have BA := Lib.hid (Blk.new w6 46 #[.int .i64 0, .string ⟨#[]⟩, .int .i64 0, .int .i64 0, .int .i64 0, .int .i64 0])
        have B7 := Lib.hid (up hb6 hm7 hb6.size)
        clear hb6 hm7 GG
        obtain ⟨x0, x1⟩ := (show _ ∧ _ from ⟨(BX4.out.below (up B5.out B7.out B5.out.size) BX4.out.lt).cell 0, (BX4.out.below (up B5.out B7.out B5.out.size) BX4.out.lt).cell 1⟩)
        go_wp2_with fail
        generalize w6.alloc (.cells #[.int .i64 0, .string ⟨#[]⟩, .int .i64 0, .int .i64 0, .int .i64 0, .int .i64 0] 46) = w7 at *
        refine (RF.out _ (up B5.out B7.out B5.out.size)).mono ?_
        rintro e w8 ⟨rfl, hb8⟩
        have B8 := Lib.hid (up B7.out hb8 B7.out.size)
        have BA8 := Lib.hid (BA.out.below hb8 BA.out.lt)
        clear hb8 RF x0 x1 BA
        have KX := Lib.hid (fun ws (h : Below w8.heap.size w8 ws) => (show _ ∧ _ ∧ _ ∧ _ ∧ _ ∧ _ from ⟨(BA8.out.below h BA8.out.lt).cell 0, (BA8.out.below h BA8.out.lt).cell 1, (BA8.out.below h BA8.out.lt).cell 2, (BA8.out.below h BA8.out.lt).cell 3, (BA8.out.below h BA8.out.lt).cell 4, (BA8.out.below h BA8.out.lt).cell 5⟩))
        have BV := Lib.hid (Below.refl w8.heap.size w8).drew
        go_wp2_with fail
        refine wp_region_held_drew (S := (fun ws => ws.cell? ⟨w6.heap.size, 0, none⟩ = some (.int .i64 0) ∧ ws.cell? ⟨w6.heap.size, 1, none⟩ = some (.string ⟨#[]⟩) ∧ ws.cell? ⟨w6.heap.size, 2, none⟩ = some (.int .i64 0) ∧ ws.cell? ⟨w6.heap.size, 3, none⟩ = some (.int .i64 0) ∧ ws.cell? ⟨w6.heap.size, 4, none⟩ = some (.int .i64 0) ∧ ws.cell? ⟨w6.heap.size, 5, none⟩ = some (.int .i64 0))) (by kernel_rfl) (KX.out _ BV.out) (fun hHeld => ?_)
        refine wpAnyH_take (i := 0) (v := ?_) rfl (by kernel_rfl) (by kernel_rfl) (by kernel_rfl) (fun _ _ _ h => h) (Or.inl ⟨by rfl, ?_⟩) (by assumption) ?_
        rotate_left
        · (intro w hSw; (try dsimp only at hSw); first | (go_simp; done) | (go_simp; with_reducible rfl))
        simp only [Act.put, List.getElem_toArray, List.getElem_cons_zero, List.getElem_cons_succ, List.setIfInBounds_toArray, List.set_cons_zero, List.set_cons_succ]
        refine wpAnyH_take (i := 1) (v := ?_) rfl (by kernel_rfl) (by kernel_rfl) (by kernel_rfl) (fun _ _ _ h => h) (Or.inl ⟨by rfl, ?_⟩) (by assumption) ?_
        rotate_left
        · (intro w hSw; (try dsimp only at hSw); first | (go_simp; done) | (go_simp; with_reducible rfl))
        simp only [Act.put, List.getElem_toArray, List.getElem_cons_zero, List.getElem_cons_succ, List.setIfInBounds_toArray, List.set_cons_zero, List.set_cons_succ]
        refine wpAnyH_take (i := 2) (v := ?_) rfl (by kernel_rfl) (by kernel_rfl) (by kernel_rfl) (fun _ _ _ h => h) (Or.inl ⟨by rfl, ?_⟩) (by assumption) ?_
        rotate_left
        · (intro w hSw; (try dsimp only at hSw); first | (go_simp; done) | (go_simp; with_reducible rfl))
        simp only [Act.put, List.getElem_toArray, List.getElem_cons_zero, List.getElem_cons_succ, List.setIfInBounds_toArray, List.set_cons_zero, List.set_cons_succ]
        refine wpAnyH_take (i := 3) (v := undef) rfl (by kernel_rfl) (by kernel_rfl) (by kernel_rfl) (fun _ _ _ h => h) (Or.inr ⟨by rfl, rfl⟩) (by assumption) ?_
        simp only [Act.put, List.getElem_toArray, List.getElem_cons_zero, List.getElem_cons_succ, List.setIfInBounds_toArray, List.set_cons_zero, List.set_cons_succ]
        refine wpAnyH_take (i := 4) (v := undef) rfl (by kernel_rfl) (by kernel_rfl) (by kernel_rfl) (fun _ _ _ h => h) (Or.inr ⟨by rfl, rfl⟩) (by assumption) ?_
        simp only [Act.put, List.getElem_toArray, List.getElem_cons_zero, List.getElem_cons_succ, List.setIfInBounds_toArray, List.set_cons_zero, List.set_cons_succ]
        refine wpAnyH_take (i := 5) (v := undef) rfl (by kernel_rfl) (by kernel_rfl) (by kernel_rfl) (fun _ _ _ h => h) (Or.inr ⟨by rfl, rfl⟩) (by assumption) ?_
        simp only [Act.put, List.getElem_toArray, List.getElem_cons_zero, List.getElem_cons_succ, List.setIfInBounds_toArray, List.set_cons_zero, List.set_cons_succ]
        refine wpAnyH_take (i := 6) (v := undef) rfl (by kernel_rfl) (by kernel_rfl) (by kernel_rfl) (fun _ _ _ h => h) (Or.inr ⟨by rfl, rfl⟩) (by assumption) ?_
        simp only [Act.put, List.getElem_toArray, List.getElem_cons_zero, List.getElem_cons_succ, List.setIfInBounds_toArray, List.set_cons_zero, List.set_cons_succ]
        refine wpAnyH_take (i := 7) (v := undef) rfl (by kernel_rfl) (by kernel_rfl) (by kernel_rfl) (fun _ _ _ h => h) (Or.inr ⟨by rfl, rfl⟩) (by assumption) ?_
        simp only [Act.put, List.getElem_toArray, List.getElem_cons_zero, List.getElem_cons_succ, List.setIfInBounds_toArray, List.set_cons_zero, List.set_cons_succ]
        refine wpAnyH_take (i := 8) (v := undef) rfl (by kernel_rfl) (by kernel_rfl) (by kernel_rfl) (fun _ _ _ h => h) (Or.inr ⟨by rfl, rfl⟩) (by assumption) ?_
        simp only [Act.put, List.getElem_toArray, List.getElem_cons_zero, List.getElem_cons_succ, List.setIfInBounds_toArray, List.set_cons_zero, List.set_cons_succ]
        refine wpAnyH_take (i := 9) (v := undef) rfl (by kernel_rfl) (by kernel_rfl) (by kernel_rfl) (fun _ _ _ h => h) (Or.inr ⟨by rfl, rfl⟩) (by assumption) ?_
        simp only [Act.put, List.getElem_toArray, List.getElem_cons_zero, List.getElem_cons_succ, List.setIfInBounds_toArray, List.set_cons_zero, List.set_cons_succ]
        refine wpAnyH_take (i := 10) (v := undef) rfl (by kernel_rfl) (by kernel_rfl) (by kernel_rfl) (fun _ _ _ h => h) (Or.inr ⟨by rfl, rfl⟩) (by assumption) ?_
        simp only [Act.put, List.getElem_toArray, List.getElem_cons_zero, List.getElem_cons_succ, List.setIfInBounds_toArray, List.set_cons_zero, List.set_cons_succ]
        refine wpAnyH_take (i := 11) (v := undef) rfl (by kernel_rfl) (by kernel_rfl) (by kernel_rfl) (fun _ _ _ h => h) (Or.inr ⟨by rfl, rfl⟩) (by assumption) ?_
        simp only [Act.put, List.getElem_toArray, List.getElem_cons_zero, List.getElem_cons_succ, List.setIfInBounds_toArray, List.set_cons_zero, List.set_cons_succ]
        refine wpAnyH_take (i := 12) (v := undef) rfl (by kernel_rfl) (by kernel_rfl) (by kernel_rfl) (fun _ _ _ h => h) (Or.inr ⟨by rfl, rfl⟩) (by assumption) ?_
        simp only [Act.put, List.getElem_toArray, List.getElem_cons_zero, List.getElem_cons_succ, List.setIfInBounds_toArray, List.set_cons_zero, List.set_cons_succ]
        refine wpAnyH_take (i := 13) (v := undef) rfl (by kernel_rfl) (by kernel_rfl) (by kernel_rfl) (fun _ _ _ h => h) (Or.inr ⟨by rfl, rfl⟩) (by assumption) ?_
        simp only [Act.put, List.getElem_toArray, List.getElem_cons_zero, List.getElem_cons_succ, List.setIfInBounds_toArray, List.set_cons_zero, List.set_cons_succ]
        refine wpAnyH_take (i := 14) (v := undef) rfl (by kernel_rfl) (by kernel_rfl) (by kernel_rfl) (fun _ _ _ h => h) (Or.inr ⟨by rfl, rfl⟩) (by assumption) ?_
        simp only [Act.put, List.getElem_toArray, List.getElem_cons_zero, List.getElem_cons_succ, List.setIfInBounds_toArray, List.set_cons_zero, List.set_cons_succ]
        refine wpAnyH_take (i := 15) (v := ?_) rfl (by kernel_rfl) (by kernel_rfl) (by kernel_rfl) (fun _ _ _ h => h) (Or.inl ⟨by rfl, ?_⟩) (by assumption) ?_
        rotate_left
        · (intro w hSw; (try dsimp only at hSw); first | (go_simp; done) | (go_simp; with_reducible rfl))
        simp only [Act.put, List.getElem_toArray, List.getElem_cons_zero, List.getElem_cons_succ, List.setIfInBounds_toArray, List.set_cons_zero, List.set_cons_succ]
        refine wpAnyH_take (i := 16) (v := ?_) rfl (by kernel_rfl) (by kernel_rfl) (by kernel_rfl) (fun _ _ _ h => h) (Or.inl ⟨by rfl, ?_⟩) (by assumption) ?_
        rotate_left
        · (intro w hSw; (try dsimp only at hSw); first | (go_simp; done) | (go_simp; with_reducible rfl))
        simp only [Act.put, List.getElem_toArray, List.getElem_cons_zero, List.getElem_cons_succ, List.setIfInBounds_toArray, List.set_cons_zero, List.set_cons_succ]
        refine wpAnyH_take (i := 17) (v := ?_) rfl (by kernel_rfl) (by kernel_rfl) (by kernel_rfl) (fun _ _ _ h => h) (Or.inl ⟨by rfl, ?_⟩) (by assumption) ?_
        rotate_left
        · (intro w hSw; (try dsimp only at hSw); first | (go_simp; done) | (go_simp; with_reducible rfl))
        simp only [Act.put, List.getElem_toArray, List.getElem_cons_zero, List.getElem_cons_succ, List.setIfInBounds_toArray, List.set_cons_zero, List.set_cons_succ]
        refine wpAnyH_take (i := 18) (v := ?_) rfl (by kernel_rfl) (by kernel_rfl) (by kernel_rfl) (fun _ _ _ h => h) (Or.inl ⟨by rfl, ?_⟩) (by assumption) ?_
        rotate_left
        · (intro w hSw; (try dsimp only at hSw); first | (go_simp; done) | (go_simp; with_reducible rfl))
        simp only [Act.put, List.getElem_toArray, List.getElem_cons_zero, List.getElem_cons_succ, List.setIfInBounds_toArray, List.set_cons_zero, List.set_cons_succ]
        refine wpAnyH_take (i := 19) (v := ?_) rfl (by kernel_rfl) (by kernel_rfl) (by kernel_rfl) (fun _ _ _ h => h) (Or.inl ⟨by rfl, ?_⟩) (by assumption) ?_
        rotate_left
        · (intro w hSw; (try dsimp only at hSw); first | (go_simp; done) | (go_simp; with_reducible rfl))
        simp only [Act.put, List.getElem_toArray, List.getElem_cons_zero, List.getElem_cons_succ, List.setIfInBounds_toArray, List.set_cons_zero, List.set_cons_succ]
        refine wpAnyH_take (i := 20) (v := ?_) rfl (by kernel_rfl) (by kernel_rfl) (by kernel_rfl) (fun _ _ _ h => h) (Or.inl ⟨by rfl, ?_⟩) (by assumption) ?_
        rotate_left
        · (intro w hSw; (try dsimp only at hSw); first | (go_simp; done) | (go_simp; with_reducible rfl))
        simp only [Act.put, List.getElem_toArray, List.getElem_cons_zero, List.getElem_cons_succ, List.setIfInBounds_toArray, List.set_cons_zero, List.set_cons_succ]
        refine wpAnyH_take (i := 21) (v := ?_) rfl (by kernel_rfl) (by kernel_rfl) (by kernel_rfl) (fun _ _ _ h => h) (Or.inl ⟨by rfl, ?_⟩) (by assumption) ?_
        rotate_left
        · (intro w hSw; (try dsimp only at hSw); first | (go_simp; done) | (go_simp; with_reducible rfl))
        simp only [Act.put, List.getElem_toArray, List.getElem_cons_zero, List.getElem_cons_succ, List.setIfInBounds_toArray, List.set_cons_zero, List.set_cons_succ]
        refine wpAnyH_take (i := 22) (v := ?_) rfl (by kernel_rfl) (by kernel_rfl) (by kernel_rfl) (fun _ _ _ h => h) (Or.inl ⟨by rfl, ?_⟩) (by assumption) ?_
        rotate_left
        · (intro w hSw; (try dsimp only at hSw); first | (go_simp; done) | (go_simp; with_reducible rfl))
        simp only [Act.put, List.getElem_toArray, List.getElem_cons_zero, List.getElem_cons_succ, List.setIfInBounds_toArray, List.set_cons_zero, List.set_cons_succ]
        refine wpAnyH_take (i := 23) (v := ?_) rfl (by kernel_rfl) (by kernel_rfl) (by kernel_rfl) (fun _ _ _ h => h) (Or.inl ⟨by rfl, ?_⟩) (by assumption) ?_
        rotate_left
        · (intro w hSw; (try dsimp only at hSw); first | (go_simp; done) | (go_simp; with_reducible rfl))
        simp only [Act.put, List.getElem_toArray, List.getElem_cons_zero, List.getElem_cons_succ, List.setIfInBounds_toArray, List.set_cons_zero, List.set_cons_succ]
        refine wpAnyH_take (i := 24) (v := ?_) rfl (by kernel_rfl) (by kernel_rfl) (by kernel_rfl) (fun _ _ _ h => h) (Or.inl ⟨by rfl, ?_⟩) (by assumption) ?_
        rotate_left
        · (intro w hSw; (try dsimp only at hSw); first | (go_simp; done) | (go_simp; with_reducible rfl))
        simp only [Act.put, List.getElem_toArray, List.getElem_cons_zero, List.getElem_cons_succ, List.setIfInBounds_toArray, List.set_cons_zero, List.set_cons_succ]
        refine wpAnyH_take (i := 25) (v := ?_) rfl (by kernel_rfl) (by kernel_rfl) (by kernel_rfl) (fun _ _ _ h => h) (Or.inl ⟨by rfl, ?_⟩) (by assumption) ?_
        rotate_left
        · (intro w hSw; (try dsimp only at hSw); first | (go_simp; done) | (go_simp; with_reducible rfl))
        simp only [Act.put, List.getElem_toArray, List.getElem_cons_zero, List.getElem_cons_succ, List.setIfInBounds_toArray, List.set_cons_zero, List.set_cons_succ]
        refine wpAnyH_take (i := 26) (v := ?_) rfl (by kernel_rfl) (by kernel_rfl) (by kernel_rfl) (fun _ _ _ h => h) (Or.inl ⟨by rfl, ?_⟩) (by assumption) ?_
        rotate_left
        · (intro w hSw; (try dsimp only at hSw); first | (go_simp; done) | (go_simp; with_reducible rfl))
        simp only [Act.put, List.getElem_toArray, List.getElem_cons_zero, List.getElem_cons_succ, List.setIfInBounds_toArray, List.set_cons_zero, List.set_cons_succ]
        refine wpAnyH_take (i := 27) (v := ?_) rfl (by kernel_rfl) (by kernel_rfl) (by kernel_rfl) (fun _ _ _ h => h) (Or.inl ⟨by rfl, ?_⟩) (by assumption) ?_
        rotate_left
        · (intro w hSw; (try dsimp only at hSw); first | (go_simp; done) | (go_simp; with_reducible rfl))
        simp only [Act.put, List.getElem_toArray, List.getElem_cons_zero, List.getElem_cons_succ, List.setIfInBounds_toArray, List.set_cons_zero, List.set_cons_succ]
        refine wpAnyH_take (i := 28) (v := ?_) rfl (by kernel_rfl) (by kernel_rfl) (by kernel_rfl) (fun _ _ _ h => h) (Or.inl ⟨by rfl, ?_⟩) (by assumption) ?_
        rotate_left
        · (intro w hSw; (try dsimp only at hSw); first | (go_simp; done) | (go_simp; with_reducible rfl))
        simp only [Act.put, List.getElem_toArray, List.getElem_cons_zero, List.getElem_cons_succ, List.setIfInBounds_toArray, List.set_cons_zero, List.set_cons_succ]
        refine wpAnyH_done (by kernel_rfl) ?_ _
        clear hHeld
        have BB := Lib.hid (up B8.out BV.out B8.out.size)
        clear B7 B8 BA8 KX BV
        generalize w8.drew = w9 at *
        go_wp2_with fail
        refine (MO.out _).mono ?_
        rintro e wa ⟨bt, bi, b, rfl, h1, h2, h3, h4⟩
        have Ba := Lib.hid (up BB.out h4 BB.out.size)
        have D1 := Lib.hid (TL1.out wa (up B5.out Ba.out B5.out.size) bt bi b (J1 L.length) A9 c9 h1 h2 h3 TE1.out ((own_lay O1.out).below Ba.out))
        clear h1 h2 h3 h4 MO BB
        go_wp2_with fail
        refine D1.out.mono ?_
        rintro e wb ⟨rfl, hbb⟩
        have Bb := Lib.hid (up Ba.out hbb Ba.out.size)
        clear hbb D1 Ba
        go_wp2_with fail
        refine (MW.out _).mono ?_
        rintro e wc ⟨ct, ci, c', rfl, h1, h2, h3, h4⟩
        have Bc := Lib.hid (up Bb.out h4 Bb.out.size)
        have D2 := Lib.hid (TL2.out wc (up B5.out Bc.out B5.out.size) ct ci c' (J2 L.length) A10 c10 h1 h2 h3 TE2.out ((own_lay O2.out).below Bc.out))
        clear h1 h2 h3 h4 MW TL1 TL2
        go_wp2_with fail
        refine D2.out.mono ?_
        rintro e wd ⟨rfl, hbd⟩
        have Bd := Lib.hid (up Bc.out hbd Bc.out.size)
        clear hbd D2
        go_wp2_with fail
        refine (AW.out _).mono ?_
        rintro e we ⟨rfl, hbe⟩
        have Be := Lib.hid (up B4.out (up B5.out (up Bd.out hbe Bd.out.size) B5.out.size) B4.out.size)
        clear hbe
        go_wp2_with fail
        go_ret
        exact ⟨rfl, Be.out⟩
      | some i =>
        obtain ⟨hil, hdi⟩ := FI.out i rfl
        have HDI := Lib.hid hdi.symm
        clear FI FO FL hdi
        have CL := Lib.hid (fun ws (h : Below w4.heap.size w4 ws) => lay6 (LW.out ws h) hil)
        rw [HDI.out] at CL
        clear HDI
        obtain ⟨d0, d1, d2, d3, d4, d5⟩ := d
        have HZ := Lib.hid (show (if true = true then (0 : Int) else 14) = 0 from rfl)
        dsimp only [Option.isSome_some, ix, tv] at GG RF CL
        try rw [HZ.out] at GG
        have RR := Lib.hid (fun ws => ref_any ⟨d0, d1, d2, d3, d4, d5⟩ ws)
        dsimp only [tv] at RR
        obtain ⟨bb, off, rfl, -, -, -, -, -, -⟩ := CL.out _ B5.out
        go_wp2_with fail
        refine GG.out.mono ?_
        rintro e w6 ⟨rfl, hb6⟩
        have hm7 := made w6 (.cells #[.int .i64 d0, .string d1, .int .i64 d2, .int .i64 d3, .int .i64 d4, .int .i64 d5] 46)
        have BA := Lib.hid (Blk.new w6 46 #[.int .i64 d0, .string d1, .int .i64 d2, .int .i64 d3, .int .i64 d4, .int .i64 d5])
        have B7 := Lib.hid (up hb6 hm7 hb6.size)
        clear hb6 hm7 GG
        obtain ⟨x0, x1⟩ := (show _ ∧ _ from ⟨(BX4.out.below (up B5.out B7.out B5.out.size) BX4.out.lt).cell 0, (BX4.out.below (up B5.out B7.out B5.out.size) BX4.out.lt).cell 1⟩)
        go_wp2_with fail
        generalize w6.alloc (.cells #[.int .i64 d0, .string d1, .int .i64 d2, .int .i64 d3, .int .i64 d4, .int .i64 d5] 46) = w7 at *
        refine (RF.out _ (up B5.out B7.out B5.out.size)).mono ?_
        rintro e w8 ⟨rfl, hb8⟩
        have B8 := Lib.hid (up B7.out hb8 B7.out.size)
        have BA8 := Lib.hid (BA.out.below hb8 BA.out.lt)
        clear hb8 RF x0 x1 BA
        have KX := Lib.hid (fun ws (h : Below w8.heap.size w8 ws) => (show ws.cell? ⟨xb, 0, none⟩ = some (.slice (some ⟨bb, off, none⟩) L.length cx) ∧ ws.cell? ⟨w6.heap.size, 0, none⟩ = some (.int .i64 d0) ∧ ws.cell? ⟨w6.heap.size, 1, none⟩ = some (.string d1) ∧ ws.cell? ⟨w6.heap.size, 2, none⟩ = some (.int .i64 d2) ∧ ws.cell? ⟨w6.heap.size, 3, none⟩ = some (.int .i64 d3) ∧ ws.cell? ⟨w6.heap.size, 4, none⟩ = some (.int .i64 d4) ∧ ws.cell? ⟨w6.heap.size, 5, none⟩ = some (.int .i64 d5) ∧ ws.cell? ⟨bb, off + i * 6, none⟩ = some (.int .i64 d0) ∧ ws.cell? ⟨bb, off + i * 6 + 1, none⟩ = some (.string d1) ∧ ws.cell? ⟨bb, off + i * 6 + 2, none⟩ = some (.int .i64 d2) ∧ ws.cell? ⟨bb, off + i * 6 + 3, none⟩ = some (.int .i64 d3) ∧ ws.cell? ⟨bb, off + i * 6 + 4, none⟩ = some (.int .i64 d4) ∧ ws.cell? ⟨bb, off + i * 6 + 5, none⟩ = some (.int .i64 d5) from by
          obtain ⟨b', o', ee, z0, z1, z2, z3, z4, z5⟩ := CL.out ws (up B5.out (up B8.out h B8.out.size) B5.out.size)
          injection ee with ee
          injection ee with ee1 ee2
          subst ee1 ee2
          exact ⟨(BX4.out.below (up B5.out (up B8.out h B8.out.size) B5.out.size) BX4.out.lt).cell 0, (BA8.out.below h BA8.out.lt).cell 0, (BA8.out.below h BA8.out.lt).cell 1, (BA8.out.below h BA8.out.lt).cell 2, (BA8.out.below h BA8.out.lt).cell 3, (BA8.out.below h BA8.out.lt).cell 4, (BA8.out.below h BA8.out.lt).cell 5, z0, z1, z2, z3, z4, z5⟩))
        have BV := Lib.hid (Below.refl w8.heap.size w8).drew
        have hg1 : decide ((i : Int) ≥ 0) = true := decide_eq_true (by omega)
        have hg2 : decide ((i : Int) < 0) = false := decide_eq_false (by omega)
        go_wp2_with fail
        refine wp_region_held_drew (S := (fun ws => ws.cell? ⟨xb, 0, none⟩ = some (.slice (some ⟨bb, off, none⟩) L.length cx) ∧ ws.cell? ⟨w6.heap.size, 0, none⟩ = some (.int .i64 d0) ∧ ws.cell? ⟨w6.heap.size, 1, none⟩ = some (.string d1) ∧ ws.cell? ⟨w6.heap.size, 2, none⟩ = some (.int .i64 d2) ∧ ws.cell? ⟨w6.heap.size, 3, none⟩ = some (.int .i64 d3) ∧ ws.cell? ⟨w6.heap.size, 4, none⟩ = some (.int .i64 d4) ∧ ws.cell? ⟨w6.heap.size, 5, none⟩ = some (.int .i64 d5) ∧ ws.cell? ⟨bb, off + i * 6, none⟩ = some (.int .i64 d0) ∧ ws.cell? ⟨bb, off + i * 6 + 1, none⟩ = some (.string d1) ∧ ws.cell? ⟨bb, off + i * 6 + 2, none⟩ = some (.int .i64 d2) ∧ ws.cell? ⟨bb, off + i * 6 + 3, none⟩ = some (.int .i64 d3) ∧ ws.cell? ⟨bb, off + i * 6 + 4, none⟩ = some (.int .i64 d4) ∧ ws.cell? ⟨bb, off + i * 6 + 5, none⟩ = some (.int .i64 d5))) (by kernel_rfl) (KX.out _ BV.out) (fun hHeld => ?_)
        refine wpAnyH_take (i := 0) (v := ?_) rfl (by kernel_rfl) (by kernel_rfl) (by kernel_rfl) (fun _ _ _ h => h) (Or.inl ⟨by rfl, ?_⟩) (by assumption) ?_
        rotate_left
        · (intro w hSw; (try dsimp only at hSw); first | (go_simp; done) | (go_simp; with_reducible rfl))
        simp only [Act.put, List.getElem_toArray, List.getElem_cons_zero, List.getElem_cons_succ, List.setIfInBounds_toArray, List.set_cons_zero, List.set_cons_succ]
        refine wpAnyH_take (i := 1) (v := ?_) rfl (by kernel_rfl) (by kernel_rfl) (by kernel_rfl) (fun _ _ _ h => h) (Or.inl ⟨by rfl, ?_⟩) (by assumption) ?_
        rotate_left
        · (intro w hSw; (try dsimp only at hSw); first | (go_simp; done) | (go_simp; with_reducible rfl))
        simp only [Act.put, List.getElem_toArray, List.getElem_cons_zero, List.getElem_cons_succ, List.setIfInBounds_toArray, List.set_cons_zero, List.set_cons_succ]
        refine wpAnyH_take (i := 2) (v := ?_) rfl (by kernel_rfl) (by kernel_rfl) (by kernel_rfl) (fun _ _ _ h => h) (Or.inl ⟨by rfl, ?_⟩) (by assumption) ?_
        rotate_left
        · (intro w hSw; (try dsimp only at hSw); first | (go_simp; done) | (go_simp; with_reducible rfl))
        simp only [Act.put, List.getElem_toArray, List.getElem_cons_zero, List.getElem_cons_succ, List.setIfInBounds_toArray, List.set_cons_zero, List.set_cons_succ]
        refine wpAnyH_take (i := 3) (v := ?_) rfl (by kernel_rfl) (by kernel_rfl) (by kernel_rfl) (fun _ _ _ h => h) (Or.inl ⟨by rfl, ?_⟩) (by assumption) ?_
        rotate_left
        · (intro w hSw; (try dsimp only at hSw); first | (go_simp; done) | (go_simp; with_reducible rfl))
        simp only [Act.put, List.getElem_toArray, List.getElem_cons_zero, List.getElem_cons_succ, List.setIfInBounds_toArray, List.set_cons_zero, List.set_cons_succ]
        refine wpAnyH_take (i := 4) (v := ?_) rfl (by kernel_rfl) (by kernel_rfl) (by kernel_rfl) (fun _ _ _ h => h) (Or.inl ⟨by rfl, ?_⟩) (by assumption) ?_
        rotate_left
        · (intro w hSw; (try dsimp only at hSw); first | (go_simp; done) | (go_simp; with_reducible rfl))
        simp only [Act.put, List.getElem_toArray, List.getElem_cons_zero, List.getElem_cons_succ, List.setIfInBounds_toArray, List.set_cons_zero, List.set_cons_succ]
        refine wpAnyH_take (i := 5) (v := ?_) rfl (by kernel_rfl) (by kernel_rfl) (by kernel_rfl) (fun _ _ _ h => h) (Or.inl ⟨by rfl, ?_⟩) (by assumption) ?_
        rotate_left
        · (intro w hSw; (try dsimp only at hSw); first | (go_simp; done) | (go_simp; with_reducible rfl))
        simp only [Act.put, List.getElem_toArray, List.getElem_cons_zero, List.getElem_cons_succ, List.setIfInBounds_toArray, List.set_cons_zero, List.set_cons_succ]
        refine wpAnyH_take (i := 6) (v := ?_) rfl (by kernel_rfl) (by kernel_rfl) (by kernel_rfl) (fun _ _ _ h => h) (Or.inl ⟨by rfl, ?_⟩) (by assumption) ?_
        rotate_left
        · (intro w hSw; (try dsimp only at hSw); first | (go_simp; done) | (go_simp; with_reducible rfl))
        simp only [Act.put, List.getElem_toArray, List.getElem_cons_zero, List.getElem_cons_succ, List.setIfInBounds_toArray, List.set_cons_zero, List.set_cons_succ]
        refine wpAnyH_take (i := 8) (v := ?_) rfl (by kernel_rfl) (by kernel_rfl) (by kernel_rfl) (fun _ _ _ h => h) (Or.inl ⟨by rfl, ?_⟩) (by assumption) ?_
        rotate_left
        · (intro w hSw; (try dsimp only at hSw); first | (go_simp; done) | (go_simp; with_reducible rfl))
        simp only [Act.put, List.getElem_toArray, List.getElem_cons_zero, List.getElem_cons_succ, List.setIfInBounds_toArray, List.set_cons_zero, List.set_cons_succ]
        refine wpAnyH_take (i := 9) (v := ?_) rfl (by kernel_rfl) (by kernel_rfl) (by kernel_rfl) (fun _ _ _ h => h) (Or.inl ⟨by rfl, ?_⟩) (by assumption) ?_
        rotate_left
        · (intro w hSw; (try dsimp only at hSw); first | (go_simp; done) | (go_simp; with_reducible rfl))
        simp only [Act.put, List.getElem_toArray, List.getElem_cons_zero, List.getElem_cons_succ, List.setIfInBounds_toArray, List.set_cons_zero, List.set_cons_succ]
        refine wpAnyH_take (i := 10) (v := ?_) rfl (by kernel_rfl) (by kernel_rfl) (by kernel_rfl) (fun _ _ _ h => h) (Or.inl ⟨by rfl, ?_⟩) (by assumption) ?_
        rotate_left
        · (intro w hSw; (try dsimp only at hSw); first | (go_simp; done) | (go_simp; with_reducible rfl))
        simp only [Act.put, List.getElem_toArray, List.getElem_cons_zero, List.getElem_cons_succ, List.setIfInBounds_toArray, List.set_cons_zero, List.set_cons_succ]
        refine wpAnyH_take (i := 11) (v := ?_) rfl (by kernel_rfl) (by kernel_rfl) (by kernel_rfl) (fun _ _ _ h => h) (Or.inl ⟨by rfl, ?_⟩) (by assumption) ?_
        rotate_left
        · (intro w hSw; (try dsimp only at hSw); first | (go_simp; done) | (go_simp; with_reducible rfl))
        simp only [Act.put, List.getElem_toArray, List.getElem_cons_zero, List.getElem_cons_succ, List.setIfInBounds_toArray, List.set_cons_zero, List.set_cons_succ]
        refine wpAnyH_take (i := 12) (v := ?_) rfl (by kernel_rfl) (by kernel_rfl) (by kernel_rfl) (fun _ _ _ h => h) (Or.inl ⟨by rfl, ?_⟩) (by assumption) ?_
        rotate_left
        · (intro w hSw; (try dsimp only at hSw); first | (go_simp; done) | (go_simp; with_reducible rfl))
        simp only [Act.put, List.getElem_toArray, List.getElem_cons_zero, List.getElem_cons_succ, List.setIfInBounds_toArray, List.set_cons_zero, List.set_cons_succ]
        refine wpAnyH_ready (rs := [7]) (by kernel_rfl) (by simp) ?_
        refine AllReadyH.cons rfl (fun K hK => ?_) AllReadyH.nil
        go_simp
        go_wp2_with (go_at_call 18; refine (RR.out _).mono ?_; rintro e wx ⟨rfl, hbx⟩)
        have BX := Lib.hid (up BV.out hbx BV.out.size)
        clear hbx
        refine hK.out _ _ (KX.out _ BX.out) (fun hH1 => ?_)
        clear hK K hHeld
        refine wpAnyH_take (i := 13) (v := ?_) rfl (by kernel_rfl) (by kernel_rfl) (by kernel_rfl) (fun _ _ _ h => h) (Or.inl ⟨by rfl, ?_⟩) (by assumption) ?_
        rotate_left
        · (intro w hSw; (try dsimp only at hSw); first | (go_simp; done) | (go_simp; with_reducible rfl))
        simp only [Act.put, List.getElem_toArray, List.getElem_cons_zero, List.getElem_cons_succ, List.setIfInBounds_toArray, List.set_cons_zero, List.set_cons_succ]
        refine wpAnyH_take (i := 14) (v := ?_) rfl (by kernel_rfl) (by kernel_rfl) (by kernel_rfl) (fun _ _ _ h => h) (Or.inl ⟨by rfl, ?_⟩) (by assumption) ?_
        rotate_left
        · (intro w hSw; (try dsimp only at hSw); first | (go_simp; done) | (go_simp; with_reducible rfl))
        simp only [Act.put, List.getElem_toArray, List.getElem_cons_zero, List.getElem_cons_succ, List.setIfInBounds_toArray, List.set_cons_zero, List.set_cons_succ]
        refine wpAnyH_take (i := 15) (v := ?_) rfl (by kernel_rfl) (by kernel_rfl) (by kernel_rfl) (fun _ _ _ h => h) (Or.inl ⟨by rfl, ?_⟩) (by assumption) ?_
        rotate_left
        · (intro w hSw; (try dsimp only at hSw); first | (go_simp; done) | (go_simp; with_reducible rfl))
        simp only [Act.put, List.getElem_toArray, List.getElem_cons_zero, List.getElem_cons_succ, List.setIfInBounds_toArray, List.set_cons_zero, List.set_cons_succ]
        refine wpAnyH_take (i := 16) (v := ?_) rfl (by kernel_rfl) (by kernel_rfl) (by kernel_rfl) (fun _ _ _ h => h) (Or.inl ⟨by rfl, ?_⟩) (by assumption) ?_
        rotate_left
        · (intro w hSw; (try dsimp only at hSw); first | (go_simp; done) | (go_simp; with_reducible rfl))
        simp only [Act.put, List.getElem_toArray, List.getElem_cons_zero, List.getElem_cons_succ, List.setIfInBounds_toArray, List.set_cons_zero, List.set_cons_succ]
        refine wpAnyH_take (i := 17) (v := ?_) rfl (by kernel_rfl) (by kernel_rfl) (by kernel_rfl) (fun _ _ _ h => h) (Or.inl ⟨by rfl, ?_⟩) (by assumption) ?_
        rotate_left
        · (intro w hSw; (try dsimp only at hSw); first | (go_simp; done) | (go_simp; with_reducible rfl))
        simp only [Act.put, List.getElem_toArray, List.getElem_cons_zero, List.getElem_cons_succ, List.setIfInBounds_toArray, List.set_cons_zero, List.set_cons_succ]
        refine wpAnyH_take (i := 18) (v := ?_) rfl (by kernel_rfl) (by kernel_rfl) (by kernel_rfl) (fun _ _ _ h => h) (Or.inl ⟨by rfl, ?_⟩) (by assumption) ?_
        rotate_left
        · (intro w hSw; (try dsimp only at hSw); first | (go_simp; done) | (go_simp; with_reducible rfl))
        simp only [Act.put, List.getElem_toArray, List.getElem_cons_zero, List.getElem_cons_succ, List.setIfInBounds_toArray, List.set_cons_zero, List.set_cons_succ]
        refine wpAnyH_take (i := 19) (v := ?_) rfl (by kernel_rfl) (by kernel_rfl) (by kernel_rfl) (fun _ _ _ h => h) (Or.inl ⟨by rfl, ?_⟩) (by assumption) ?_
        rotate_left
        · (intro w hSw; (try dsimp only at hSw); first | (go_simp; done) | (go_simp; with_reducible rfl))
        simp only [Act.put, List.getElem_toArray, List.getElem_cons_zero, List.getElem_cons_succ, List.setIfInBounds_toArray, List.set_cons_zero, List.set_cons_succ]
        refine wpAnyH_take (i := 20) (v := undef) rfl (by kernel_rfl) (by kernel_rfl) (by kernel_rfl) (fun _ _ _ h => h) (Or.inr ⟨by rfl, rfl⟩) (by assumption) ?_
        simp only [Act.put, List.getElem_toArray, List.getElem_cons_zero, List.getElem_cons_succ, List.setIfInBounds_toArray, List.set_cons_zero, List.set_cons_succ]
        refine wpAnyH_take (i := 21) (v := undef) rfl (by kernel_rfl) (by kernel_rfl) (by kernel_rfl) (fun _ _ _ h => h) (Or.inr ⟨by rfl, rfl⟩) (by assumption) ?_
        simp only [Act.put, List.getElem_toArray, List.getElem_cons_zero, List.getElem_cons_succ, List.setIfInBounds_toArray, List.set_cons_zero, List.set_cons_succ]
        refine wpAnyH_take (i := 22) (v := undef) rfl (by kernel_rfl) (by kernel_rfl) (by kernel_rfl) (fun _ _ _ h => h) (Or.inr ⟨by rfl, rfl⟩) (by assumption) ?_
        simp only [Act.put, List.getElem_toArray, List.getElem_cons_zero, List.getElem_cons_succ, List.setIfInBounds_toArray, List.set_cons_zero, List.set_cons_succ]
        refine wpAnyH_take (i := 23) (v := undef) rfl (by kernel_rfl) (by kernel_rfl) (by kernel_rfl) (fun _ _ _ h => h) (Or.inr ⟨by rfl, rfl⟩) (by assumption) ?_
        simp only [Act.put, List.getElem_toArray, List.getElem_cons_zero, List.getElem_cons_succ, List.setIfInBounds_toArray, List.set_cons_zero, List.set_cons_succ]
        refine wpAnyH_take (i := 24) (v := undef) rfl (by kernel_rfl) (by kernel_rfl) (by kernel_rfl) (fun _ _ _ h => h) (Or.inr ⟨by rfl, rfl⟩) (by assumption) ?_
        simp only [Act.put, List.getElem_toArray, List.getElem_cons_zero, List.getElem_cons_succ, List.setIfInBounds_toArray, List.set_cons_zero, List.set_cons_succ]
        refine wpAnyH_take (i := 25) (v := undef) rfl (by kernel_rfl) (by kernel_rfl) (by kernel_rfl) (fun _ _ _ h => h) (Or.inr ⟨by rfl, rfl⟩) (by assumption) ?_
        simp only [Act.put, List.getElem_toArray, List.getElem_cons_zero, List.getElem_cons_succ, List.setIfInBounds_toArray, List.set_cons_zero, List.set_cons_succ]
        refine wpAnyH_take (i := 26) (v := undef) rfl (by kernel_rfl) (by kernel_rfl) (by kernel_rfl) (fun _ _ _ h => h) (Or.inr ⟨by rfl, rfl⟩) (by assumption) ?_
        simp only [Act.put, List.getElem_toArray, List.getElem_cons_zero, List.getElem_cons_succ, List.setIfInBounds_toArray, List.set_cons_zero, List.set_cons_succ]
        refine wpAnyH_take (i := 27) (v := ?_) rfl (by kernel_rfl) (by kernel_rfl) (by kernel_rfl) (fun _ _ _ h => h) (Or.inl ⟨by rfl, ?_⟩) (by assumption) ?_
        rotate_left
        · (intro w hSw; (try dsimp only at hSw); first | (go_simp; done) | (go_simp; with_reducible rfl))
        simp only [Act.put, List.getElem_toArray, List.getElem_cons_zero, List.getElem_cons_succ, List.setIfInBounds_toArray, List.set_cons_zero, List.set_cons_succ]
        refine wpAnyH_take (i := 28) (v := ?_) rfl (by kernel_rfl) (by kernel_rfl) (by kernel_rfl) (fun _ _ _ h => h) (Or.inl ⟨by rfl, ?_⟩) (by assumption) ?_
        rotate_left
        · (intro w hSw; (try dsimp only at hSw); first | (go_simp; done) | (go_simp; with_reducible rfl))
        simp only [Act.put, List.getElem_toArray, List.getElem_cons_zero, List.getElem_cons_succ, List.setIfInBounds_toArray, List.set_cons_zero, List.set_cons_succ]
        refine wpAnyH_done (by kernel_rfl) ?_ _
        clear hH1
        have BB := Lib.hid (up B8.out BX.out B8.out.size)
        clear B7 B8 BA8 KX BV RR BX
        generalize wx = w9 at *
        go_wp2_with fail
        refine (MO.out _).mono ?_
        rintro e wa ⟨bt, bi, b, rfl, h1, h2, h3, h4⟩
        have Ba := Lib.hid (up BB.out h4 BB.out.size)
        have D1 := Lib.hid (TL1.out wa (up B5.out Ba.out B5.out.size) bt bi b (J1 L.length) A9 c9 h1 h2 h3 TE1.out ((own_lay O1.out).below Ba.out))
        clear h1 h2 h3 h4 MO BB
        go_wp2_with fail
        refine D1.out.mono ?_
        rintro e wb ⟨rfl, hbb⟩
        have Bb := Lib.hid (up Ba.out hbb Ba.out.size)
        clear hbb D1 Ba
        go_wp2_with fail
        refine (MW.out _).mono ?_
        rintro e wc ⟨ct, ci, c', rfl, h1, h2, h3, h4⟩
        have Bc := Lib.hid (up Bb.out h4 Bb.out.size)
        have D2 := Lib.hid (TL2.out wc (up B5.out Bc.out B5.out.size) ct ci c' (J2 L.length) A10 c10 h1 h2 h3 TE2.out ((own_lay O2.out).below Bc.out))
        clear h1 h2 h3 h4 MW TL1 TL2
        go_wp2_with fail
        refine D2.out.mono ?_
        rintro e wd ⟨rfl, hbd⟩
        have Bd := Lib.hid (up Bc.out hbd Bc.out.size)
        clear hbd D2
        go_wp2_with fail
        refine (AW.out _).mono ?_
        rintro e we ⟨rfl, hbe⟩
        have Be := Lib.hid (up B4.out (up B5.out (up Bd.out hbe Bd.out.size) B5.out.size) B4.out.size)
        clear hbe
        go_wp2_with fail
        go_ret
        exact ⟨rfl, Be.out⟩
theorem walk (w : World) (A : Option Addr) (c : Nat) (D : List OpR) (hA : Lay EO w A D) (hc : D.length ≤ c) (hm : c ≤ maxLen) (hD : ∀ o ∈ D, o.Ok) (n : Int) (wn : (Lit.int .i64 n).wf = true) :
    Calls Try.prog 4 #[.slice A D.length c, .int .i64 n] w fun e w' => e = .returned (.bool true) ∧ Below w.heap.size w w' := by
  unfold maxLen at hm
  cases h : smallB D 80 with
  | true => exact walk_yes w A c D n hA hD h
  | false => exact walk_no w A c D n hA hD (by omega) h
set_option maxRecDepth 100000 in
theorem lifted (os : Os) (started : os.Started) (H : Type) (enc : TypeId × Value → H) :
    ReturnsInHanded {} Try.checked os 4 .any (Rows.thingFindsSpec.pre6 enc Try.prog Try.f4 Rows.thingFindsRow.domain false) (Rows.thingFindsSpec.post enc Try.prog Try.f4 false true false false) := by
  refine returnsInHanded_of_change (C := Try.checked) base.own started (by kernel_rfl) Try.func4
    (ChangeSpec.witness6 (enc := enc) (C := Try.checked) false ⟨#[], #[.slice none 0 0, .int .i64 0], []⟩ 8 (by kernel_rfl) (by kernel_rfl) (by kernel_rfl) (by kernel_rfl)) ?_
  intro W bs args ds gs before hval0 hW _ _
  have hval : ∀ (j : Nat) t v, Try.f4.params[j]? = some t → args[j]? = some v → Value.okWide Try.prog W .any bs t v := hval0
  have hW' : DataW.Whole enc Try.prog Try.f4.params.toList Rows.thingFindsSpec.vars false W args.toList ds gs before := hW
  obtain ⟨p, q, hA0, hV, rfl, _, _⟩ := hW
  have hA : DataW.TrodAll enc Try.prog W 0 (fun _ => true) true Try.f4.params.toList args.toList ds p := hA0
  rw [Try.params4] at hA hval
  obtain ⟨v0, vs0, d0, ds0, p0, q0, hargs, rfl, rfl, h0, r0⟩ := trodAll_cons hA
  obtain ⟨v1, vs1, d1, ds1, p1, q1, rfl, rfl, rfl, h1, r1⟩ := trodAll_cons r0
  obtain ⟨rfl, rfl, rfl⟩ := trodAll_nil r1
  obtain rfl : args = #[v0, v1] := by cases args; simp_all
  obtain ⟨rfl, rfl⟩ := trodVars_none hV
  obtain ⟨A0, c0, D0, rfl, b0, m0, n0, o0⟩ := tg.open_ops (hval 0 22 v0 rfl rfl) h0
  obtain ⟨a1, rfl, rfl, rfl, w1⟩ := open_int Try.underlying3 (hval 1 3 v1 rfl rfl) h1
  clear hA0 hval0
  refine (walk W A0 c0 D0 n0 b0 m0 o0 a1 w1).mono fun e W' ⟨he, hb⟩ => ?_
  subst he
  exact ⟨_, rfl, base.law_post base.laid (by kernel_rfl) rfl rfl Try.underlying4 hW' rfl rfl rfl hb⟩

theorem over : Rows.thingFindsRow.holds Try.pinned (OpenSpec.ofChange Rows.thingFindsSpec) :=
  OpenClaim.holds_of_wide 4 Try.f4 rfl rfl rfl rfl rfl rfl rfl ⟨rfl, rfl, rfl, rfl, rfl⟩ rfl rfl rfl rfl rfl (by kernel_rfl) Try.func4 (by kernel_rfl)
    (of_decide_eq_true (by kernel_rfl)) (by unfold Func.isWrapper; first | (rw [if_pos (by decide +kernel)]; kernel_rfl) | (rw [if_neg (by decide +kernel)]; exact ⟨rfl, rfl⟩))
    (fun os started H enc _ => lifted os started H enc)

theorem proved : Rows.ThingFindsSaid := over
#print axioms proved
end Go.Proofs.Ytckdfdnhoionnaa.thingFinds
