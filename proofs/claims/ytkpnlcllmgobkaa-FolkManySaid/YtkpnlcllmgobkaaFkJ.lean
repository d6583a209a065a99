/-
  Contracts of the reference: Hold, Give, Move.
-/
import Derived.Test.YtkpnlcllmgobkaaFkI
namespace Go.Proofs.Ytkpnlcllmgobkaa.fk
open Go.RowKit
open base (ret_bool ret_int made up Blk Only)
open rk mk
set_option linter.unusedVariables false
set_option linter.unusedSimpArgs false
variable {B g : Nat} {w w1 w2 w' : World} {L : List FR} {h : Int}

set_option maxRecDepth 100000 in
set_option maxHeartbeats 2000000 in
theorem rhold_any {id n : Int} (G : Gd (L, h)) (H : XAt w B g L h) :
    Calls Try.prog 30 #[.pointer (some ⟨g, 0, none⟩), .int .i64 id, .int .i64 n] w (DidX B g (hold (L, h) id n) w) := by
  have LE := Lib.hid (rless_any (id := id) (n := n) G H)
  by_cases q : (less (L, h) id n).2 = 0
  · rw [hold_yes q]
    have q1 : chk (L, h) id n = 0 := by
      by_cases k : chk (L, h) id n = 0
      · exact k
      · rw [less_no k] at q
        exact absurd q k
    have q2 : ¬ gat (L, h) id < n := fun k => by
      rw [less_funds q1 k] at q
      exact absurd (show (35 : Int) = 0 from q) (by decide)
    obtain ⟨-, h0, h1⟩ := chk_zero q1
    obtain ⟨b0, b1, -⟩ := G.bd
    rw [less_yes q1 q2] at LE ⊢
    dsimp only at *
    generalize sg (L, h) id (gat (L, h) id - n) = L' at *
    have TE := Lib.hid (show DidX B g ((L', h + n), 0) = fun w e w' => e = .returned (.int .i64 0) ∧ XAt w' B g L' (h + n) ∧ Chg B RK w w' from rfl)
    clear H q q1 q2 G
    go_enter Try.func30, Try.ntmps30
    go_wp2_with fail
    refine LE.out.mono ?_
    rintro e w1 ⟨rfl, H1, C1⟩
    obtain ⟨A, c, A2, c2, hb1, -⟩ := H1.open_
    have f3 := hb1.free 2
    have d3 := hb1.cell 2
    have PU := Lib.hid (H1.held (h + n))
    have CC := Lib.hid C1
    clear H1 C1 hb1 LE
    go_wp2_with fail
    go_ret
    rw [TE.out]
    exact ⟨rfl, PU.out.1, CC.out.trans PU.out.2⟩
  · rw [hold_no q]
    generalize less (L, h) id n = r at *
    obtain ⟨s, r⟩ := r
    dsimp only at q
    clear H
    go_enter Try.func30, Try.ntmps30
    go_wp2_with fail
    refine LE.out.mono ?_
    rintro e w1 ⟨rfl, H1, C1⟩
    have HH := Lib.hid (And.intro H1 C1)
    clear H1 C1
    dsimp only
    go_wp2_with fail
    go_ret
    exact ⟨rfl, HH.out.1, HH.out.2⟩
set_option maxRecDepth 100000 in
set_option maxHeartbeats 2000000 in
theorem rgive_any {id n : Int} (G : Gd (L, h)) (H : XAt w B g L h) :
    Calls Try.prog 32 #[.pointer (some ⟨g, 0, none⟩), .int .i64 id, .int .i64 n] w (DidX B g (give (L, h) id n) w) := by
  have hl := G.len
  dsimp only at hl
  have AS := Lib.hid (rcheck_any (id := id) (n := n) h H (by omega))
  have HH := Lib.hid H
  by_cases q : chk (L, h) id n = 0
  · obtain ⟨hh, h0, h1⟩ := chk_zero q
    rw [q] at AS
    obtain ⟨b0, b1, b2, b3, b4, b5⟩ := G.bd
    obtain ⟨m, hi, ei, e1, e2⟩ := at_nat hh
    have hm256 : (m : Int) < 256 := by
      have h2 : m < L.length := hi
      omega
    obtain ⟨b6, b7⟩ := gat_bd G hh
    dsimp only at b0 b1 b2 b3 b7
    by_cases q2 : h < n
    · rw [give_funds q q2]
      obtain ⟨A, c, A2, c2, hb, -⟩ := H.open_
      have c2' := hb.cell 2
      have TE := Lib.hid (show DidX B g ((L, h), 35) = fun w e w' => e = .returned (.int .i64 35) ∧ XAt w' B g L h ∧ Chg B RK w w' from rfl)
      clear H hb q e1 e2 hh G b4 b5 b2 b3 b6 b7 hi ei
      go_enter Try.func32, Try.ntmps32
      go_wp2_with fail
      refine AS.out.mono ?_
      rintro e w1 ⟨rfl, rfl⟩
      go_wp2_with fail
      go_ret
      rw [TE.out]
      exact ⟨rfl, HH.out, Chg.refl _ _ _⟩
    · rw [give_yes q q2]
      obtain ⟨A0, k0, A1, k1, hb0, -⟩ := H.open_
      have c2' := hb0.cell 2
      have f2' := hb0.free 2
      obtain ⟨H2, C2⟩ := H.held (h - n)
      have H2 := Lib.hid H2
      have CC := Lib.hid C2
      have E1 := Lib.hid e1
      have E2 := Lib.hid (e2 (gat (L, h) id + n))
      generalize sg (L, h) id (gat (L, h) id + n) = L' at *
      generalize gat (L, h) id = z at *
      generalize sumG L = S at *
      have TE := Lib.hid (show DidX B g ((L', h - n), 0) = fun w e w' => e = .returned (.int .i64 0) ∧ XAt w' B g L' (h - n) ∧ Chg B RK w w' from rfl)
      clear H hb0 q e1 e2 hh HH G b4 b5 C2
      dsimp only at hi E1 E2
      subst ei
      go_enter Try.func32, Try.ntmps32
      go_wp2_with fail
      refine AS.out.mono ?_
      rintro e w1 ⟨rfl, rfl⟩
      go_upto_region 6 with fail
      generalize w.setCell ⟨g, 2, none⟩ (.int .i64 (h - n)) = w2 at *
      obtain ⟨A, c, gr, c2, hb, hc, fz, hle, hmx, hne, hput⟩ := H2.out.put hi
      rw [← E1.out] at hc
      have PU := Lib.hid (hput (z + n))
      rw [← E2.out] at PU
      have c1 := hb.cell 1
      clear hb hput E1 E2 f2' c2'
      go_wp2_with fail
      go_ret
      rw [TE.out]
      exact ⟨rfl, PU.out.1, CC.out.trans PU.out.2⟩
  · rw [give_no q]
    generalize chk (L, h) id n = r at *
    clear H
    go_enter Try.func32, Try.ntmps32
    go_wp2_with fail
    refine AS.out.mono ?_
    rintro e w1 ⟨rfl, rfl⟩
    go_wp2_with fail
    go_ret
    exact ⟨rfl, HH.out, Chg.refl _ _ _⟩
set_option maxRecDepth 100000 in
set_option maxHeartbeats 2000000 in
theorem rmove_any {id du n : Int} (G : Gd (L, h)) (H : XAt w B g L h) :
    Calls Try.prog 29 #[.pointer (some ⟨g, 0, none⟩), .int .i64 id, .int .i64 du, .int .i64 n] w (DidX B g (move (L, h) id du n) w) := by
  have hl := G.len
  dsimp only at hl
  have AS := Lib.hid (rcheck_any (id := id) (n := n) h H (by omega))
  have LE := Lib.hid (rless_any (id := id) (n := n) G H)
  have HH := Lib.hid H
  obtain ⟨A0, k0, A1, k1, hb0, -⟩ := H.open_
  have c1' := hb0.cell 1
  by_cases q : chk (L, h) id n = 0
  · obtain ⟨hh, h0, h1⟩ := chk_zero q
    rw [q] at AS
    cases qt : has (L, h) du with
    | false =>
      rw [move_to q qt]
      have TE := Lib.hid (show DidX B g ((L, h), 14) = fun w e w' => e = .returned (.int .i64 14) ∧ XAt w' B g L h ∧ Chg B RK w w' from rfl)
      have qd : du < 1 ∨ (L.length : Int) < du := by
        simp [has] at qt
        omega
      clear H q G hh qt hb0 LE
      by_cases q5 : du < 1
      · clear qd
        go_enter Try.func29, Try.ntmps29
        go_wp2_with fail
        refine AS.out.mono ?_
        rintro e w1 ⟨rfl, rfl⟩
        go_wp2_with fail
        go_ret
        rw [TE.out]
        exact ⟨rfl, HH.out, Chg.refl _ _ _⟩
      · have q6 : (L.length : Int) < du := by omega
        clear qd
        go_enter Try.func29, Try.ntmps29
        go_wp2_with fail
        refine AS.out.mono ?_
        rintro e w1 ⟨rfl, rfl⟩
        go_wp2_with fail
        go_ret
        rw [TE.out]
        exact ⟨rfl, HH.out, Chg.refl _ _ _⟩
    | true =>
    obtain ⟨r1, r2⟩ := has_iff.1 qt
    dsimp only at r1 r2
    by_cases q2 : gat (L, h) id < n
    · rw [move_funds q qt q2]
      rw [less_funds q q2] at LE
      have TE := Lib.hid (show DidX B g ((L, h), 35) = fun w e w' => e = .returned (.int .i64 35) ∧ XAt w' B g L h ∧ Chg B RK w w' from rfl)
      clear H q G hh qt hb0 q2
      go_enter Try.func29, Try.ntmps29
      go_wp2_with fail
      refine AS.out.mono ?_
      rintro e w1 ⟨rfl, rfl⟩
      go_wp2_with fail
      refine LE.out.mono ?_
      rintro e w1 ⟨rfl, H1, C1⟩
      have HH := Lib.hid (And.intro H1 C1)
      clear H1 C1
      dsimp only
      go_wp2_with fail
      go_ret
      rw [TE.out]
      exact ⟨rfl, HH.out.1, HH.out.2⟩
    · rw [move_yes q qt q2]
      rw [less_yes q q2] at LE
      dsimp only at *
      have G2 : Gd (sg (L, h) id (gat (L, h) id - n), h) := by
        have := G.less id n
        rw [less_yes q q2] at this
        exact this
      have q3 : has (sg (L, h) id (gat (L, h) id - n), h) du = true := by rw [has_sg]; exact qt
      have hl2 : (sg (L, h) id (gat (L, h) id - n)).length = L.length := sg_len _ _ _
      generalize sg (L, h) id (gat (L, h) id - n) = L1 at *
      obtain ⟨m, hi, ei, e1, e2⟩ := at_nat q3
      have hm256 : (m : Int) < 256 := by
        have h2 : m < L1.length := hi
        omega
      obtain ⟨b6, b7⟩ := gat_bd G2 q3
      have b8 := G2.bd.2.2.2.1
      have E1 := Lib.hid e1
      have E2 := Lib.hid (e2 (gat (L1, h) du + n))
      dsimp only at hi b7 b8 E1 E2
      generalize sg (L1, h) du (gat (L1, h) du + n) = L2 at *
      generalize gat (L1, h) du = z at *
      generalize sumG L1 = S at *
      have TE := Lib.hid (show DidX B g ((L2, h), 0) = fun w e w' => e = .returned (.int .i64 0) ∧ XAt w' B g L2 h ∧ Chg B RK w w' from rfl)
      clear H q G hh qt hb0 q2 G2 q3 e1 e2 HH
      subst ei
      go_enter Try.func29, Try.ntmps29
      go_wp2_with fail
      refine AS.out.mono ?_
      rintro e w1 ⟨rfl, rfl⟩
      go_wp2_with fail
      refine LE.out.mono ?_
      rintro e w1 ⟨rfl, H1, C1⟩
      obtain ⟨A, c, gr, c2, hb, hc, fz, hle, hmx, hne, hput⟩ := H1.put hi
      rw [← E1.out] at hc
      have PU := Lib.hid (hput (z + n))
      rw [← E2.out] at PU
      have c1 := hb.cell 1
      have CC := Lib.hid C1
      clear H1 C1 hb hput E1 E2 LE AS c1'
      go_wp2_with fail
      go_ret
      rw [TE.out]
      exact ⟨rfl, PU.out.1, CC.out.trans PU.out.2⟩
  · rw [move_no q]
    generalize chk (L, h) id n = r at *
    clear H LE hb0
    go_enter Try.func29, Try.ntmps29
    go_wp2_with fail
    refine AS.out.mono ?_
    rintro e w1 ⟨rfl, rfl⟩
    go_wp2_with fail
    go_ret
    exact ⟨rfl, HH.out, Chg.refl _ _ _⟩
end Go.Proofs.Ytkpnlcllmgobkaa.fk
