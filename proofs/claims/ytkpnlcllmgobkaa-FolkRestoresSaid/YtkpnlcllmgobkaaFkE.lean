/-
  Contracts of package folk: Burn, Hold, Give, Move.
-/
import Derived.Test.YtkpnlcllmgobkaaFkD
namespace Go.Proofs.Ytkpnlcllmgobkaa.fk
open Go.RowKit
open base (ret_bool ret_int made up Blk Only)
open rk mk
set_option linter.unusedVariables false
set_option linter.unusedSimpArgs false
variable {B g b : Nat} {w w1 w2 w' : World} {L : List FR} {h t : Int}

/-- less: what spend does -/
theorem tt_less {id n : Int} (hh : has (L, h) id = true) : tt (sg (L, h) id (gat (L, h) id - n), h) = tt (L, h) - n := by
  rw [tt_sg hh]
  show h + (sumG L - _ + _) = h + sumG L - n
  omega
theorem tt_more {id n : Int} (hh : has (L, h) id = true) (k : Int) : tt (sg (L, h) id (gat (L, h) id + n), k) = tt (L, h) + n + (k - h) := by
  rw [tt_sg hh]
  show k + (sumG L - _ + _) = h + sumG L + n + (k - h)
  omega
set_option maxRecDepth 100000 in
set_option maxHeartbeats 2000000 in
theorem burn_any {id n : Int} (G : Gd (L, h)) (H : FAt w B g b L h (tt (L, h))) :
    Calls Try.prog 24 #[.pointer (some ⟨g, 0, none⟩), .int .i64 id, .int .i64 n] w (Did B g b (less (L, h) id n) w) := by
  have hl := G.len
  dsimp only at hl
  have AS := Lib.hid (asked_any (id := id) (n := n) (k := h) H (by omega))
  by_cases q : chk (L, h) id n = 0
  · obtain ⟨hh, h0, h1⟩ := chk_zero q
    rw [q] at AS
    obtain ⟨b0, b1, b2, b3, b4, b5⟩ := G.bd
    by_cases q2 : gat (L, h) id < n
    · rw [less_funds q q2]
      have SP := Lib.hid (spend_no G H hh h0 h1 q2)
      have HH := Lib.hid H
      have TE := Lib.hid (show Did B g b ((L, h), 35) = fun w e w' => e = .returned (.int .i64 35) ∧ FAt w' B g b L h (tt (L, h)) ∧ Chg B PK w w' from rfl)
      generalize tt (L, h) = T at *
      clear H q b0 b1 b2 b3 b4 b5 q2 G hh
      go_enter Try.func24, Try.ntmps24
      go_wp2_with fail
      refine AS.out.mono ?_
      rintro e w1 ⟨rfl, rfl⟩
      go_wp2_with fail
      refine SP.out.mono ?_
      rintro e w1 ⟨rfl, rfl⟩
      go_wp2_with fail
      go_ret
      rw [TE.out]
      exact ⟨rfl, HH.out, Chg.refl _ _ _⟩
    · rw [less_yes q q2]
      have SP := Lib.hid (spend_yes (n := n) G H hh h0 (by omega))
      have TL := Lib.hid (tt_less (n := n) hh)
      dsimp only at *
      generalize hT : tt (L, h) = T at *
      generalize sg (L, h) id (gat (L, h) id - n) = L' at *
      have TE := Lib.hid (show Did B g b ((L', h), 0) = fun w e w' => e = .returned (.int .i64 0) ∧ FAt w' B g b L' h (tt (L', h)) ∧ Chg B PK w w' from rfl)
      rw [TL.out] at TE
      clear H q q2 G hh hT TL
      go_enter Try.func24, Try.ntmps24
      go_wp2_with fail
      refine AS.out.mono ?_
      rintro e w1 ⟨rfl, rfl⟩
      go_wp2_with fail
      refine SP.out.mono ?_
      rintro e w1 ⟨rfl, H1, C1⟩
      obtain ⟨A1, c1, hb1, -⟩ := H1.open_
      have f3 := hb1.free 3
      have d3 := hb1.cell 3
      have PU := Lib.hid (H1.total (T - n))
      have CC := Lib.hid C1
      clear H1 C1 hb1 SP AS
      go_wp2_with fail
      go_ret
      rw [TE.out]
      exact ⟨rfl, PU.out.1, CC.out.trans PU.out.2⟩
  · rw [less_no q]
    have HH := Lib.hid H
    generalize chk (L, h) id n = r at *
    clear H
    go_enter Try.func24, Try.ntmps24
    go_wp2_with fail
    refine AS.out.mono ?_
    rintro e w1 ⟨rfl, rfl⟩
    go_wp2_with fail
    go_ret
    exact ⟨rfl, HH.out, Chg.refl _ _ _⟩
theorem hold_no {s : St} {id n : Int} (q : (less s id n).2 ≠ 0) : hold s id n = less s id n := by unfold hold; rw [if_pos q]
theorem hold_yes {s : St} {id n : Int} (q : (less s id n).2 = 0) : hold s id n = (((less s id n).1.1, s.2 + n), 0) := by unfold hold; rw [if_neg (fun k => k q)]
set_option maxRecDepth 100000 in
set_option maxHeartbeats 2000000 in
theorem hold_any {id n : Int} (G : Gd (L, h)) (H : FAt w B g b L h (tt (L, h))) :
    Calls Try.prog 23 #[.pointer (some ⟨g, 0, none⟩), .int .i64 id, .int .i64 n] w (Did B g b (hold (L, h) id n) w) := by
  have hl := G.len
  dsimp only at hl
  have AS := Lib.hid (asked_any (id := id) (n := n) (k := h) H (by omega))
  by_cases q : chk (L, h) id n = 0
  · obtain ⟨hh, h0, h1⟩ := chk_zero q
    rw [q] at AS
    obtain ⟨b0, b1, b2, b3, b4, b5⟩ := G.bd
    by_cases q2 : gat (L, h) id < n
    · rw [hold_no (by rw [less_funds q q2]; exact (by decide : (35 : Int) ≠ 0)), less_funds q q2]
      have SP := Lib.hid (spend_no G H hh h0 h1 q2)
      have HH := Lib.hid H
      have TE := Lib.hid (show Did B g b ((L, h), 35) = fun w e w' => e = .returned (.int .i64 35) ∧ FAt w' B g b L h (tt (L, h)) ∧ Chg B PK w w' from rfl)
      generalize tt (L, h) = T at *
      clear H q b0 b1 b2 b3 b4 b5 q2 G hh
      go_enter Try.func23, Try.ntmps23
      go_wp2_with fail
      refine AS.out.mono ?_
      rintro e w1 ⟨rfl, rfl⟩
      go_wp2_with fail
      refine SP.out.mono ?_
      rintro e w1 ⟨rfl, rfl⟩
      go_wp2_with fail
      go_ret
      rw [TE.out]
      exact ⟨rfl, HH.out, Chg.refl _ _ _⟩
    · rw [hold_yes (by rw [less_yes q q2]), less_yes q q2]
      have SP := Lib.hid (spend_yes (n := n) G H hh h0 (by omega))
      have TL := tt_less (n := n) hh
      dsimp only at *
      generalize hT : tt (L, h) = T at *
      generalize sg (L, h) id (gat (L, h) id - n) = L' at *
      have TE := Lib.hid (show Did B g b ((L', h + n), 0) = fun w e w' => e = .returned (.int .i64 0) ∧ FAt w' B g b L' (h + n) (tt (L', h + n)) ∧ Chg B PK w w' from rfl)
      have e9 : tt (L', h + n) = T := by
        have e1 : tt (L', h + n) = h + n + sumG L' := rfl
        have e2 : tt (L', h) = h + sumG L' := rfl
        omega
      rw [e9] at TE
      clear H q q2 G hh hT TL e9
      go_enter Try.func23, Try.ntmps23
      go_wp2_with fail
      refine AS.out.mono ?_
      rintro e w1 ⟨rfl, rfl⟩
      go_wp2_with fail
      refine SP.out.mono ?_
      rintro e w1 ⟨rfl, H1, C1⟩
      obtain ⟨A1, c1, hb1, -⟩ := H1.open_
      have f3 := hb1.free 2
      have d3 := hb1.cell 2
      have PU := Lib.hid (H1.held (h + n))
      have CC := Lib.hid C1
      clear H1 C1 hb1 SP AS
      go_wp2_with fail
      go_ret
      rw [TE.out]
      exact ⟨rfl, PU.out.1, CC.out.trans PU.out.2⟩
  · rw [hold_no (by rw [less_no q]; exact q), less_no q]
    have HH := Lib.hid H
    generalize chk (L, h) id n = r at *
    clear H
    go_enter Try.func23, Try.ntmps23
    go_wp2_with fail
    refine AS.out.mono ?_
    rintro e w1 ⟨rfl, rfl⟩
    go_wp2_with fail
    go_ret
    exact ⟨rfl, HH.out, Chg.refl _ _ _⟩
theorem give_no {s : St} {id n : Int} (q : chk s id n ≠ 0) : give s id n = (s, chk s id n) := by unfold give; rw [if_pos q]
theorem give_funds {s : St} {id n : Int} (q : chk s id n = 0) (q2 : s.2 < n) : give s id n = (s, 35) := by unfold give; rw [if_neg (fun k => k q), if_pos q2]
theorem give_yes {s : St} {id n : Int} (q : chk s id n = 0) (q2 : ¬ s.2 < n) : give s id n = ((sg s id (gat s id + n), s.2 - n), 0) := by unfold give; rw [if_neg (fun k => k q), if_neg q2]
set_option maxRecDepth 100000 in
set_option maxHeartbeats 2000000 in
theorem give_any {id n : Int} (G : Gd (L, h)) (H : FAt w B g b L h (tt (L, h))) :
    Calls Try.prog 31 #[.pointer (some ⟨g, 0, none⟩), .int .i64 id, .int .i64 n] w (Did B g b (give (L, h) id n) w) := by
  have hl := G.len
  dsimp only at hl
  have AS := Lib.hid (asked_any (id := id) (n := n) (k := h) H (by omega))
  by_cases q : chk (L, h) id n = 0
  · obtain ⟨hh, h0, h1⟩ := chk_zero q
    rw [q] at AS
    obtain ⟨b0, b1, b2, b3, b4, b5⟩ := G.bd
    obtain ⟨A, c, hb, -, -, -, -⟩ := H.open_
    have c2 := hb.cell 2
    dsimp only at b0 b1
    by_cases q2 : h < n
    · rw [give_funds q q2]
      have SP := Lib.hid (gold.sub_funds h n w (gold.right_mk b0 b1) (gold.right_mk h0 h1) q2)
      have HH := Lib.hid H
      have TE := Lib.hid (show Did B g b ((L, h), 35) = fun w e w' => e = .returned (.int .i64 35) ∧ FAt w' B g b L h (tt (L, h)) ∧ Chg B PK w w' from rfl)
      generalize tt (L, h) = T at *
      clear H q b2 b3 b4 b5 q2 G hh hb
      go_enter Try.func31, Try.ntmps31
      go_wp2_with fail
      refine AS.out.mono ?_
      rintro e w1 ⟨rfl, rfl⟩
      go_wp2_with fail
      refine SP.out.mono ?_
      rintro e w1 ⟨rfl, rfl⟩
      go_wp2_with fail
      go_ret
      rw [TE.out]
      exact ⟨rfl, HH.out, Chg.refl _ _ _⟩
    · rw [give_yes q q2]
      have SP := Lib.hid (gold.sub_ok h n w (gold.right_mk b0 b1) (gold.right_mk h0 h1) (by omega))
      obtain ⟨m, hi, ei, e1, e2⟩ := at_nat hh
      have hm256 : (m : Int) < 256 := by
        have h2 : m < L.length := hi
        omega
      obtain ⟨b6, b7⟩ := gat_bd G hh
      have TL := Lib.hid (tt_more (n := n) hh (h - n))
      have f2 := hb.free 2
      dsimp only at *
      have HH := Lib.hid H
      have E1 := Lib.hid e1
      have E2 := Lib.hid (e2 (gat (L, h) id + n))
      generalize hT : tt (L, h) = T at *
      generalize hz : gat (L, h) id = z at *
      generalize sg (L, h) id (z + n) = L' at *
      have TE := Lib.hid (show Did B g b ((L', h - n), 0) = fun w e w' => e = .returned (.int .i64 0) ∧ FAt w' B g b L' (h - n) (tt (L', h - n)) ∧ Chg B PK w w' from rfl)
      rw [TL.out, show T + n + (h - n - h) = T by omega] at TE
      obtain ⟨H2, C2⟩ := H.held (h - n)
      have H2 := Lib.hid H2
      have CC := Lib.hid C2
      clear H hb q hT e1 e2 hz hh C2 HH TL
      subst ei
      go_enter Try.func31, Try.ntmps31
      go_wp2_with fail
      refine AS.out.mono ?_
      rintro e w1 ⟨rfl, rfl⟩
      go_wp2_with fail
      refine SP.out.mono ?_
      rintro e w1 ⟨rfl, rfl⟩
      go_upto_region 8 with fail
      generalize w.setCell ⟨g, 2, none⟩ (.int .i64 (h - n)) = w2 at *
      obtain ⟨gr, c, hb, hc, fz, hle, hmx, hne, hput⟩ := H2.out.put hi
      rw [← E1.out] at hc
      have PU := Lib.hid (hput (z + n))
      rw [← E2.out] at PU
      have c0 := hb.cell 0
      clear hb hput E1 E2 f2 c2
      go_wp2_with fail
      go_ret
      rw [TE.out]
      exact ⟨rfl, PU.out.1, CC.out.trans PU.out.2⟩
  · rw [give_no q]
    have HH := Lib.hid H
    generalize chk (L, h) id n = r at *
    clear H
    go_enter Try.func31, Try.ntmps31
    go_wp2_with fail
    refine AS.out.mono ?_
    rintro e w1 ⟨rfl, rfl⟩
    go_wp2_with fail
    go_ret
    exact ⟨rfl, HH.out, Chg.refl _ _ _⟩
theorem move_no {s : St} {a b n : Int} (q : chk s a n ≠ 0) : move s a b n = (s, chk s a n) := by unfold move; rw [if_pos q]
theorem move_to {s : St} {a b n : Int} (q : chk s a n = 0) (q2 : has s b = false) : move s a b n = (s, 14) := by unfold move; rw [if_neg (fun k => k q), if_pos q2]
theorem move_funds {s : St} {a b n : Int} (q : chk s a n = 0) (q2 : has s b = true) (q3 : gat s a < n) : move s a b n = (s, 35) := by
  unfold move
  rw [if_neg (fun k => k q), if_neg (by rw [q2]; simp), if_pos (by rw [less_funds q q3]; exact (by decide : (35 : Int) ≠ 0)), less_funds q q3]
theorem move_yes {s : St} {a b n : Int} (q : chk s a n = 0) (q2 : has s b = true) (q3 : ¬ gat s a < n) : move s a b n = ((sg (sg s a (gat s a - n), s.2) b (gat (sg s a (gat s a - n), s.2) b + n), s.2), 0) := by
  unfold move
  rw [if_neg (fun k => k q), if_neg (by rw [q2]; simp), if_neg (by rw [less_yes q q3]; simp), less_yes q q3]
set_option maxRecDepth 100000 in
set_option maxHeartbeats 2000000 in
theorem move_any {id du n : Int} (G : Gd (L, h)) (H : FAt w B g b L h (tt (L, h))) :
    Calls Try.prog 28 #[.pointer (some ⟨g, 0, none⟩), .int .i64 id, .int .i64 du, .int .i64 n] w (Did B g b (move (L, h) id du n) w) := by
  have hl := G.len
  dsimp only at hl
  have AS := Lib.hid (asked_any (id := id) (n := n) (k := h) H (by omega))
  have HT := Lib.hid (has_any (n := du) (k := h) H (by omega))
  by_cases q : chk (L, h) id n = 0
  · obtain ⟨hh, h0, h1⟩ := chk_zero q
    rw [q] at AS
    have HH := Lib.hid H
    cases qt : has (L, h) du with
    | false =>
      rw [qt] at HT
      rw [move_to q qt]
      have TE := Lib.hid (show Did B g b ((L, h), 14) = fun w e w' => e = .returned (.int .i64 14) ∧ FAt w' B g b L h (tt (L, h)) ∧ Chg B PK w w' from rfl)
      generalize tt (L, h) = T at *
      clear H q G hh
      go_enter Try.func28, Try.ntmps28
      go_wp2_with fail
      refine AS.out.mono ?_
      rintro e w1 ⟨rfl, rfl⟩
      go_wp2_with fail
      refine HT.out.mono ?_
      rintro e w1 ⟨rfl, rfl⟩
      go_wp2_with fail
      go_ret
      rw [TE.out]
      exact ⟨rfl, HH.out, Chg.refl _ _ _⟩
    | true =>
    rw [qt] at HT
    by_cases q2 : gat (L, h) id < n
    · rw [move_funds q qt q2]
      have SP := Lib.hid (spend_no G H hh h0 h1 q2)
      have TE := Lib.hid (show Did B g b ((L, h), 35) = fun w e w' => e = .returned (.int .i64 35) ∧ FAt w' B g b L h (tt (L, h)) ∧ Chg B PK w w' from rfl)
      generalize tt (L, h) = T at *
      clear H q q2 G hh qt
      go_enter Try.func28, Try.ntmps28
      go_wp2_with fail
      refine AS.out.mono ?_
      rintro e w1 ⟨rfl, rfl⟩
      go_wp2_with fail
      refine HT.out.mono ?_
      rintro e w1 ⟨rfl, rfl⟩
      go_wp2_with fail
      refine SP.out.mono ?_
      rintro e w1 ⟨rfl, rfl⟩
      go_wp2_with fail
      go_ret
      rw [TE.out]
      exact ⟨rfl, HH.out, Chg.refl _ _ _⟩
    · rw [move_yes q qt q2]
      have SP := Lib.hid (spend_yes (n := n) G H hh h0 (by omega))
      have TL := tt_less (n := n) hh
      have G2 := G.less id n
      rw [less_yes q q2] at G2
      have hq : has (sg (L, h) id (gat (L, h) id - n), h) du = true := by rw [has_sg]; exact qt
      dsimp only at *
      generalize hT : tt (L, h) = T at *
      generalize sg (L, h) id (gat (L, h) id - n) = L1 at *
      obtain ⟨m, hi, ei, e1, e2⟩ := at_nat hq
      have hm256 : (m : Int) < 256 := by
        have h2 : m < L1.length := hi
        have := G2.len
        dsimp only at this
        omega
      obtain ⟨b6, b7⟩ := gat_bd G2 hq
      have b8 := G2.bd.2.2.2.1
      have TM := tt_more (n := n) hq h
      dsimp only at b7 b8
      have bz : n ≤ 1099511627776 := h1
      have E1 := Lib.hid e1
      have E2 := Lib.hid (e2 (gat (L1, h) du + n))
      generalize hz : gat (L1, h) du = z at *
      generalize sg (L1, h) du (z + n) = L' at *
      have TE := Lib.hid (show Did B g b ((L', h), 0) = fun w e w' => e = .returned (.int .i64 0) ∧ FAt w' B g b L' h (tt (L', h)) ∧ Chg B PK w w' from rfl)
      rw [TM, TL, show T - n + n + (h - h) = T by omega] at TE
      have hi2 : m < L1.length := hi
      have hzb : z ≤ 1099511627776 := by omega
      clear H q q2 G hh hT TL TM e1 e2 hz hq G2 qt HH b7 b8
      subst ei
      go_enter Try.func28, Try.ntmps28
      go_wp2_with fail
      refine AS.out.mono ?_
      rintro e w1 ⟨rfl, rfl⟩
      go_wp2_with fail
      refine HT.out.mono ?_
      rintro e w1 ⟨rfl, rfl⟩
      go_wp2_with fail
      refine SP.out.mono ?_
      rintro e w1 ⟨rfl, H1, C1⟩
      obtain ⟨gr, c, hb, hc, fz, hle, hmx, hne, hput⟩ := H1.put hi2
      rw [← E1.out] at hc
      have PU := Lib.hid (hput (z + n))
      rw [← E2.out] at PU
      have c0 := hb.cell 0
      have CC := Lib.hid C1
      clear hb hput E1 E2 H1 C1 SP AS HT
      go_wp2_with fail
      go_ret
      rw [TE.out]
      exact ⟨rfl, PU.out.1, CC.out.trans PU.out.2⟩
  · rw [move_no q]
    have HH := Lib.hid H
    generalize chk (L, h) id n = r at *
    clear H
    go_enter Try.func28, Try.ntmps28
    go_wp2_with fail
    refine AS.out.mono ?_
    rintro e w1 ⟨rfl, rfl⟩
    go_wp2_with fail
    go_ret
    exact ⟨rfl, HH.out, Chg.refl _ _ _⟩
end Go.Proofs.Ytkpnlcllmgobkaa.fk
