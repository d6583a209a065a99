/-
  Contracts of package folk: Mint, Burn, Hold, Give, Move.
-/
import Derived.Test.YtkpnlcllmgobkaaFkC
namespace Go.Proofs.Ytkpnlcllmgobkaa.fk
open Go.RowKit
open base (ret_bool ret_int made up Blk Only)
open rk mk
set_option linter.unusedVariables false
set_option linter.unusedSimpArgs false
variable {B g b : Nat} {w w1 w2 w' : World} {L : List FR} {h t : Int}

/-- what a call that changes accounts says: an error's number, the accounts after it -/
def Did (B g b : Nat) (r : St × Int) (w : World) (e : Ending) (w' : World) : Prop := e = .returned (.int .i64 r.2) ∧ FAt w' B g b r.1.1 r.1.2 (tt r.1) ∧ Chg B PK w w'
theorem mint_no {s : St} {id n : Int} (q : chk s id n ≠ 0) : mint s id n = (s, chk s id n) := by unfold mint; rw [if_pos q]
theorem mint_over {s : St} {id n : Int} (q : chk s id n = 0) (q2 : 1099511627776 < tt s + n) : mint s id n = (s, 15) := by unfold mint; rw [if_neg (fun k => k q), if_pos q2]
theorem mint_yes {s : St} {id n : Int} (q : chk s id n = 0) (q2 : ¬ 1099511627776 < tt s + n) : mint s id n = ((sg s id (gat s id + n), s.2), 0) := by unfold mint; rw [if_neg (fun k => k q), if_neg q2]
theorem less_no {s : St} {id n : Int} (q : chk s id n ≠ 0) : less s id n = (s, chk s id n) := by unfold less; rw [if_pos q]
theorem less_funds {s : St} {id n : Int} (q : chk s id n = 0) (q2 : gat s id < n) : less s id n = (s, 35) := by unfold less; rw [if_neg (fun k => k q), if_pos q2]
theorem less_yes {s : St} {id n : Int} (q : chk s id n = 0) (q2 : ¬ gat s id < n) : less s id n = ((sg s id (gat s id - n), s.2), 0) := by unfold less; rw [if_neg (fun k => k q), if_neg q2]
theorem tt_sg {s : St} {id : Int} (h : has s id = true) (v k : Int) : tt (sg s id v, k) = k + (sumG s.1 - gat s id + v) := by
  show k + sumG (sg s id v) = _
  rw [sg_sum h]

theorem at_nat {s : St} {n : Int} (h : has s n = true) : ∃ (m : Nat) (hi : m < s.1.length), n = m + 1 ∧ gat s n = s.1[m].2 ∧ ∀ v, sg s n v = s.1.set m (s.1[m].1, v) := by
  obtain ⟨hi, e1, e2⟩ := at_ok h
  obtain ⟨r1, r2⟩ := has_iff.1 h
  exact ⟨(n - 1).toNat, hi, by omega, e1, e2⟩
set_option maxRecDepth 100000 in
set_option maxHeartbeats 2000000 in
theorem mint_any {id n : Int} (G : Gd (L, h)) (H : FAt w B g b L h (tt (L, h))) :
    Calls Try.prog 22 #[.pointer (some ⟨g, 0, none⟩), .int .i64 id, .int .i64 n] w (Did B g b (mint (L, h) id n) w) := by
  have hl := G.len
  dsimp only at hl
  have AS := Lib.hid (asked_any (id := id) (n := n) (k := h) H (by omega))
  by_cases q : chk (L, h) id n = 0
  · obtain ⟨hh, h0, h1⟩ := chk_zero q
    rw [q] at AS
    obtain ⟨b0, b1, b2, b3, b4, b5⟩ := G.bd
    obtain ⟨A, c, hb, -, -, -, -⟩ := H.open_
    have c3 := hb.cell 3
    have AD := Lib.hid (gold.add_any (tt (L, h)) n w)
    have hr : (gold.isRight (tt (L, h)) && gold.isRight n) = true := by rw [gold.right_mk b4 b5, gold.right_mk h0 h1]; rfl
    by_cases q2 : 1099511627776 < tt (L, h) + n
    · rw [mint_over q q2]
      have HH := Lib.hid H
      have TE := Lib.hid (show Did B g b ((L, h), 15) = fun w e w' => e = .returned (.int .i64 15) ∧ FAt w' B g b L h (tt (L, h)) ∧ Chg B PK w w' from rfl)
      generalize tt (L, h) = T at *
      clear H hb q b0 b1 b2 b3 b4 b5
      go_enter Try.func22, Try.ntmps22
      go_wp2_with fail
      refine AS.out.mono ?_
      rintro e w1 ⟨rfl, rfl⟩
      go_wp2_with fail
      refine AD.out.mono ?_
      rintro e w1 ⟨-, p2, -, p4⟩
      have e1 := p2 hr q2
      subst e1
      have B4 := Lib.hid p4
      clear p2 p4 hr q2 AD AS
      go_wp2_with fail
      go_ret
      rw [TE.out]
      exact ⟨rfl, HH.out.below B4.out, Chg.of_below _ _ B4.out⟩
    · rw [mint_yes q q2]
      obtain ⟨m, hi, ei, e1, e2⟩ := at_nat hh
      have hm256 : (m : Int) < 256 := by
        have h2 : m < L.length := hi
        omega
      obtain ⟨b6, b7⟩ := gat_bd G hh
      have TE := Lib.hid (tt_sg hh (gat (L, h) id + n) h)
      have TT := Lib.hid (show tt (L, h) = h + sumG L from rfl)
      dsimp only at *
      have HH := Lib.hid H
      have E1 := Lib.hid e1
      have E2 := Lib.hid (e2 (gat (L, h) id + n))
      generalize hT : tt (L, h) = T at *
      generalize hz : gat (L, h) id = z at *
      generalize sg (L, h) id (z + n) = L' at *
      generalize sumG L = S at *
      clear H hb q hT e1 e2 hz hh
      subst ei
      go_enter Try.func22, Try.ntmps22
      go_wp2_with fail
      refine AS.out.mono ?_
      rintro e w1 ⟨rfl, rfl⟩
      go_wp2_with fail
      refine AD.out.mono ?_
      rintro e w1 ⟨-, -, p3, p4⟩
      have e1 := p3 hr (by omega)
      subst e1
      have B4 := Lib.hid p4
      have H1 := HH.out.below p4
      obtain ⟨A1, c1, hb1, -⟩ := H1.open_
      have f3 := hb1.free 3
      have d3 := hb1.cell 3
      obtain ⟨H2, C2⟩ := H1.total (T + n)
      have CC := Lib.hid ((Chg.of_below B PK p4).trans C2)
      clear p3 p4 hr AD AS c3 hb1 HH C2
      have HH := Lib.hid H2
      clear H1 H2
      go_upto_region 8 with fail
      generalize w1.setCell ⟨g, 3, none⟩ (.int .i64 (T + n)) = w2 at *
      obtain ⟨gr, c, hb, hc, fz, hle, hmx, hne, hput⟩ := HH.out.put hi
      rw [← E1.out] at hc
      have PU := Lib.hid (hput (z + n))
      rw [← E2.out] at PU
      have c0 := hb.cell 0
      clear hb hput E1 E2 f3 d3
      go_wp2_with fail
      go_ret
      have ht : tt (L', h) = T + n := by
        rw [TE.out, TT.out]
        omega
      refine ⟨rfl, ?_, CC.out.trans PU.out.2⟩
      show FAt _ B g b L' h (tt (L', h))
      rw [ht]
      exact PU.out.1
  · rw [mint_no q]
    have HH := Lib.hid H
    generalize chk (L, h) id n = r at *
    clear H
    go_enter Try.func22, Try.ntmps22
    go_wp2_with fail
    refine AS.out.mono ?_
    rintro e w1 ⟨rfl, rfl⟩
    go_wp2_with fail
    go_ret
    exact ⟨rfl, HH.out, Chg.refl _ _ _⟩
end Go.Proofs.Ytkpnlcllmgobkaa.fk
