/-
  Contracts of the reference: check, Total, Mint, Less, Move, Hold, Give.
-/
import Derived.Test.YtkpnlcllmgobkaaFkH
namespace Go.Proofs.Ytkpnlcllmgobkaa.fk
open Go.RowKit
open base (ret_bool ret_int made up Blk Only)
open rk mk
open Go.PlainAid (bt get_bt bt_nonneg bt_le)
set_option linter.unusedVariables false
set_option linter.unusedSimpArgs false
variable {B g : Nat} {w w1 w2 w' : World} {L : List FR} {h : Int}

set_option maxRecDepth 100000 in
set_option maxHeartbeats 1000000 in
theorem rcheck_any {id n : Int} (k : Int) (H : XAt w B g L h) (hl : L.length ≤ 1000) :
    Calls Try.prog 38 #[.pointer (some ⟨g, 0, none⟩), .int .i64 id, .int .i64 n] w fun e w' => e = .returned (.int .i64 (chk (L, k) id n)) ∧ w = w' := by
  obtain ⟨A, c, A2, c2, hb, -⟩ := H.open_
  have c1 := hb.cell 1
  have CK := Lib.hid (show chk (L, k) id n = if has (L, k) id = false then 14 else if n < 0 ∨ 1099511627776 < n then 11 else 0 from rfl)
  have HS := Lib.hid (show has (L, k) id = decide (1 ≤ id ∧ id ≤ L.length) from rfl)
  generalize chk (L, k) id n = r at *
  generalize has (L, k) id = q at *
  clear H hb
  by_cases q1 : id < 1
  · have e : r = 14 := by rw [CK.out, if_pos (by rw [HS.out]; simp; omega)]
    subst e
    go_enter Try.func38, Try.ntmps38
    go_wp2_with fail
    go_ret
    exact ⟨rfl, rfl⟩
  by_cases q2 : (L.length : Int) < id
  · have e : r = 14 := by rw [CK.out, if_pos (by rw [HS.out]; simp; omega)]
    subst e
    go_enter Try.func38, Try.ntmps38
    go_wp2_with fail
    go_ret
    exact ⟨rfl, rfl⟩
  have e0 : ¬ (q = false) := by rw [HS.out]; simp; omega
  have e1 := CK.out
  rw [if_neg e0] at e1
  by_cases q3 : n < 0
  · have e : r = 11 := by rw [e1, if_pos (.inl q3)]
    subst e
    clear e1 e0
    go_enter Try.func38, Try.ntmps38
    go_wp2_with fail
    go_ret
    exact ⟨rfl, rfl⟩
  by_cases q4 : 1099511627776 < n
  · have e : r = 11 := by rw [e1, if_pos (.inr q4)]
    subst e
    clear e1 e0
    go_enter Try.func38, Try.ntmps38
    go_wp2_with fail
    go_ret
    exact ⟨rfl, rfl⟩
  · have e : r = 0 := by rw [e1, if_neg (by omega)]
    subst e
    clear e1 e0
    go_enter Try.func38, Try.ntmps38
    go_wp2_with fail
    go_ret
    exact ⟨rfl, rfl⟩

set_option maxRecDepth 100000 in
set_option maxHeartbeats 1000000 in
theorem rtotal_any (G : Gd (L, h)) (H : XAt w B g L h) :
    Calls Try.prog 36 #[.pointer (some ⟨g, 0, none⟩)] w fun e w' => e = .returned (.int .i64 (tt (L, h))) ∧ w = w' := by
  obtain ⟨A, c, A2, c2, hb, -, -, -, hla, hle, hmx, hle2, hmx2⟩ := H.open_
  have c1 := hb.cell 1
  have c2' := hb.cell 2
  have HA := Lib.hid hla
  have hl := G.len
  dsimp only at hl
  have ST := Lib.hid (fun k (hk : k < L.length) => sumG_take L hk)
  have SB := Lib.hid (fun k => sum_take_le G.pos k)
  have BB := Lib.hid G.bd
  have TT := Lib.hid (show tt (L, h) = h + sumG (L.take L.length) by rw [List.take_length]; rfl)
  have TT2 := Lib.hid (show tt (L, h) = h + sumG L from rfl)
  generalize tt (L, h) = T at *
  clear H hb hla
  go_enter Try.func36, Try.ntmps36
  go_wp2_with fail
  go_loop [3, 4] (fun n i => ∃ k : Nat, k ≤ L.length ∧ i = .int .i64 k ∧ n = .int .i64 (h + sumG (L.take k))) (fun n i => L.length - (intOf i).toNat)
  case atStart => exact ⟨0, by omega, rfl, by simp [sumG]⟩
  case round =>
    obtain ⟨k, hk, rfl, rfl⟩ := hrel
    by_cases hlt : k < L.length
    · obtain ⟨bb, off, rfl, e0⟩ := XAt.gold HA.out hlt
      have S1 := Lib.hid (ST.out k hlt)
      have S2 := SB.out (k + 1)
      have S3 := SB.out k
      obtain ⟨b0, b1, b2, b3, b4, b5⟩ := BB.out
      rw [S1.out] at S2
      (try dsimp only at b0 b1 b2 b3)
      have b6 := TT2.out
      generalize L[k].2 = z at *
      generalize sumG (L.take k) = s0 at *
      generalize sumG L = sL at *
      clear b4 b5
      have hw : IntKind.i64.wrap (h + s0 + z) = h + s0 + z := IntWalk.i64_in _ (by omega)
      clear b6
      go_wp2_with fail
      go_round
      case rel => exact ⟨k + 1, by omega, by go_num, by rw [S1.out, Int.add_assoc]⟩
      case measure => simp [intOf] <;> omega
    · obtain rfl : k = L.length := by omega
      have e := TT.out
      rw [← e]
      go_wp2_with fail
      go_ret
      exact ⟨rfl, rfl⟩

def DidX (B g : Nat) (r : St × Int) (w : World) (e : Ending) (w' : World) : Prop := e = .returned (.int .i64 r.2) ∧ XAt w' B g r.1.1 r.1.2 ∧ Chg B RK w w'
set_option maxRecDepth 100000 in
set_option maxHeartbeats 2000000 in
theorem rmint_any {id n : Int} (G : Gd (L, h)) (H : XAt w B g L h) :
    Calls Try.prog 21 #[.pointer (some ⟨g, 0, none⟩), .int .i64 id, .int .i64 n] w (DidX B g (mint (L, h) id n) w) := by
  have hl := G.len
  dsimp only at hl
  have AS := Lib.hid (rcheck_any (id := id) (n := n) h H (by omega))
  have TO := Lib.hid (rtotal_any G H)
  have HH := Lib.hid H
  by_cases q : chk (L, h) id n = 0
  · obtain ⟨hh, h0, h1⟩ := chk_zero q
    rw [q] at AS
    obtain ⟨b0, b1, b2, b3, b4, b5⟩ := G.bd
    by_cases q2 : 1099511627776 < tt (L, h) + n
    · rw [mint_over q q2]
      have TE := Lib.hid (show DidX B g ((L, h), 15) = fun w e w' => e = .returned (.int .i64 15) ∧ XAt w' B g L h ∧ Chg B RK w w' from rfl)
      generalize tt (L, h) = T at *
      clear H q b0 b1 b2 b3
      go_enter Try.func21, Try.ntmps21
      go_wp2_with fail
      refine AS.out.mono ?_
      rintro e w1 ⟨rfl, rfl⟩
      go_wp2_with fail
      refine TO.out.mono ?_
      rintro e w1 ⟨rfl, rfl⟩
      go_wp2_with fail
      go_ret
      rw [TE.out]
      exact ⟨rfl, HH.out, Chg.refl _ _ _⟩
    · rw [mint_yes q q2]
      obtain ⟨m, hi, ei, e1, e2⟩ := at_nat hh
      have hm256 : (m : Int) < 256 := by
        have h2 : m < L.length := hi
        omega
      obtain ⟨b6, b7⟩ := gat_bd G hh
      dsimp only at *
      obtain ⟨A, c, gr, c2, hb, hc, fz, hle, hmx, hne, hput⟩ := H.put hi
      rw [← e1] at hc
      have PU := Lib.hid (hput (gat (L, h) id + n))
      rw [← e2] at PU
      have c1 := hb.cell 1
      generalize sg (L, h) id (gat (L, h) id + n) = L' at *
      generalize gat (L, h) id = z at *
      generalize tt (L, h) = T at *
      generalize sumG L = S at *
      have TE := Lib.hid (show DidX B g ((L', h), 0) = fun w e w' => e = .returned (.int .i64 0) ∧ XAt w' B g L' h ∧ Chg B RK w w' from rfl)
      clear H hb q e1 e2 hh hput HH G
      subst ei
      go_enter Try.func21, Try.ntmps21
      go_wp2_with fail
      refine AS.out.mono ?_
      rintro e w1 ⟨rfl, rfl⟩
      go_wp2_with fail
      refine TO.out.mono ?_
      rintro e w1 ⟨rfl, rfl⟩
      go_wp2_with fail
      go_ret
      rw [TE.out]
      exact ⟨rfl, PU.out.1, PU.out.2⟩
  · rw [mint_no q]
    generalize chk (L, h) id n = r at *
    clear H
    go_enter Try.func21, Try.ntmps21
    go_wp2_with fail
    refine AS.out.mono ?_
    rintro e w1 ⟨rfl, rfl⟩
    go_wp2_with fail
    go_ret
    exact ⟨rfl, HH.out, Chg.refl _ _ _⟩
set_option maxRecDepth 100000 in
set_option maxHeartbeats 2000000 in
theorem rless_any {id n : Int} (G : Gd (L, h)) (H : XAt w B g L h) :
    Calls Try.prog 27 #[.pointer (some ⟨g, 0, none⟩), .int .i64 id, .int .i64 n] w (DidX B g (less (L, h) id n) w) := by
  have hl := G.len
  dsimp only at hl
  have AS := Lib.hid (rcheck_any (id := id) (n := n) h H (by omega))
  have HH := Lib.hid H
  by_cases q : chk (L, h) id n = 0
  · obtain ⟨hh, h0, h1⟩ := chk_zero q
    rw [q] at AS
    obtain ⟨b0, b1, b2, b3, b4, b5⟩ := G.bd
    obtain ⟨m, hi, ei, e1, e2⟩ := at_nat hh
    have hm256 : (m : Int) < 256 := by
      have h2 : m < L.length := hi
      omega
    obtain ⟨b6, b7⟩ := gat_bd G hh
    obtain ⟨A, c, gr, c2, hb, hc, fz, hle, hmx, hne, hput⟩ := H.put hi
    rw [← e1] at hc
    have c1 := hb.cell 1
    by_cases q2 : gat (L, h) id < n
    · rw [less_funds q q2]
      dsimp only at *
      have TE := Lib.hid (show DidX B g ((L, h), 35) = fun w e w' => e = .returned (.int .i64 35) ∧ XAt w' B g L h ∧ Chg B RK w w' from rfl)
      generalize gat (L, h) id = z at *
      generalize sumG L = S at *
      clear H hb q e1 e2 hh hput G b4 b5
      subst ei
      go_enter Try.func27, Try.ntmps27
      go_wp2_with fail
      refine AS.out.mono ?_
      rintro e w1 ⟨rfl, rfl⟩
      go_wp2_with fail
      go_ret
      rw [TE.out]
      exact ⟨rfl, HH.out, Chg.refl _ _ _⟩
    · rw [less_yes q q2]
      have PU := Lib.hid (hput (gat (L, h) id - n))
      rw [← e2] at PU
      dsimp only at *
      generalize sg (L, h) id (gat (L, h) id - n) = L' at *
      generalize gat (L, h) id = z at *
      generalize sumG L = S at *
      have TE := Lib.hid (show DidX B g ((L', h), 0) = fun w e w' => e = .returned (.int .i64 0) ∧ XAt w' B g L' h ∧ Chg B RK w w' from rfl)
      clear H hb q e1 e2 hh hput HH G b4 b5
      subst ei
      go_enter Try.func27, Try.ntmps27
      go_wp2_with fail
      refine AS.out.mono ?_
      rintro e w1 ⟨rfl, rfl⟩
      go_wp2_with fail
      go_ret
      rw [TE.out]
      exact ⟨rfl, PU.out.1, PU.out.2⟩
  · rw [less_no q]
    generalize chk (L, h) id n = r at *
    clear H
    go_enter Try.func27, Try.ntmps27
    go_wp2_with fail
    refine AS.out.mono ?_
    rintro e w1 ⟨rfl, rfl⟩
    go_wp2_with fail
    go_ret
    exact ⟨rfl, HH.out, Chg.refl _ _ _⟩
end Go.Proofs.Ytkpnlcllmgobkaa.fk
