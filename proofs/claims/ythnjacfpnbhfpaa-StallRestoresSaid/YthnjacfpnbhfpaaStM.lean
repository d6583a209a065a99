/-
  Contracts of the reference's stalls: Has, Find, Of.
-/
import Derived.Test.YthnjacfpnbhfpaaStL
namespace Go.Proofs.Ythnjacfpnbhfpaa.st
open Go.RowKit
open base (ret_bool ret_int made up Blk Only)
open rk mk
set_option linter.unusedVariables false
set_option linter.unusedSimpArgs false
variable {B : Nat} {w w1 w2 w' : World}

theorem TT : Ty E2 Try.prog 26 71 (.agg #[.int .i64 0, .int .i64 0]) 16 := ⟨Try.underlying26, by kernel_rfl, rfl, by decide⟩
theorem TR : Ty E3 Try.prog 27 69 (.agg #[.int .i64 0, .int .i64 0, .int .i64 0]) 24 := ⟨Try.underlying27, by kernel_rfl, rfl, by decide⟩
theorem layE {α : Type} {E : Enc α} {b : Nat} {t : TypeId} {A : Option Addr} {c : Nat} {L : List α} (h : Own E w b t (.slice A L.length c) L) : Lay E w A L := by
  obtain ⟨A', c', e, h2, _⟩ := h.open_
  injection e with e1 e2 e3
  subst e1
  exact h2
theorem lay3 {A : Option Addr} {L : List G3} (h : Lay E3 w A L) {k : Nat} (hk : k < L.length) : ∃ b off, A = some ⟨b, off, none⟩ ∧ w.cell? ⟨b, off + k * 3, none⟩ = some (.int .i64 L[k].1) ∧ w.cell? ⟨b, off + k * 3 + 1, none⟩ = some (.int .i64 L[k].2.1) ∧ w.cell? ⟨b, off + k * 3 + 2, none⟩ = some (.int .i64 L[k].2.2) := by
  obtain ⟨b, off, e, _, hc⟩ := h (by omega)
  exact ⟨b, off, e, hc k hk 0 (by decide), hc k hk 1 (by decide), hc k hk 2 (by decide)⟩

set_option maxRecDepth 100000 in
set_option maxHeartbeats 2000000 in
theorem rhas_any (A : Option Addr) (c : Nat) (T : List C2) (Ag : Option Addr) (m cg : Nat) (n : Int) (w : World) (hA : Lay E2 w A T) (hl : T.length ≤ 100000) :
    Calls Try.prog 14 #[.agg #[.slice A T.length c, .slice Ag m cg], .int .i64 n] w fun e w' => e = .returned (.int .i64 (ixI (fi (isT n) T))) ∧ Below w.heap.size w w' := by
  have hm := made w (.cells #[.slice A T.length c, .slice Ag m cg] 29)
  have bx := Blk.new w 29 #[.slice A T.length c, .slice Ag m cg]
  have HA := Lib.hid (hA.below hm)
  have B1 := Lib.hid hm
  have FO := Lib.hid (fun k (hu : Upto (isT n) T k) (hk : k < T.length) (hp : isT n T[k] = true) => show ixI (fi (isT n) T) = (k : Int) by rw [hu.found hk hp]; rfl)
  have NO := Lib.hid (fun k (hu : Upto (isT n) T k) (hk : T.length ≤ k) => show ixI (fi (isT n) T) = -1 by rw [hu.none hk]; rfl)
  have c0 := bx.cell 0
  clear hm bx hA
  generalize hw1 : w.alloc (.cells #[.slice A T.length c, .slice Ag m cg] 29) = w1 at *
  generalize ixI (fi (isT n) T) = r at *
  go_enter Try.func14, Try.ntmps14
  go_wp2_with (rw [hw1])
  clear hw1
  go_loop [5] (fun i => ∃ k : Nat, k ≤ T.length ∧ i = .int .i64 k ∧ Upto (isT n) T k) (fun i => T.length - (intOf i).toNat)
  case atStart => exact ⟨0, by omega, rfl, Upto.zero _ _⟩
  case round =>
    obtain ⟨k, hk, rfl, hup⟩ := hrel
    have U := Lib.hid hup
    clear hup
    by_cases hlt : k < T.length
    · obtain ⟨bb, off, rfl, e0, e1⟩ := lay2 HA.out hlt
      have F1 := Lib.hid (FO.out k U.out hlt)
      have S1 := Lib.hid (fun hp => U.out.succ hlt hp)
      have IS := Lib.hid (show isT n T[k] = (T[k].1 == n) from rfl)
      generalize T[k] = d at *
      obtain ⟨d0, d1⟩ := d
      dsimp only at *
      cases q : (d0 == n) with
      | true =>
        have e := F1.out (by rw [IS.out]; exact q)
        subst e
        go_wp2_with fail
        go_ret
        exact ⟨rfl, B1.out⟩
      | false =>
        go_wp2_with fail
        go_round
        case rel => exact ⟨k + 1, by omega, by go_num, S1.out (by rw [IS.out]; exact q)⟩
        case measure => simp [intOf] <;> omega
    · have e := NO.out k U.out (by omega)
      subst e
      go_wp2_with fail
      go_ret
      exact ⟨rfl, B1.out⟩

set_option maxRecDepth 100000 in
set_option maxHeartbeats 2000000 in
theorem rfind_any (A : Option Addr) (c : Nat) (T : List G3) (At : Option Addr) (m ct : Nat) (n : Int) (w : World) (hA : Lay E3 w A T) (hl : T.length ≤ 100000) :
    Calls Try.prog 12 #[.agg #[.slice At m ct, .slice A T.length c], .int .i64 n] w fun e w' => e = .returned (.int .i64 (ixI (fi (isG n) T))) ∧ Below w.heap.size w w' := by
  have hm := made w (.cells #[.slice At m ct, .slice A T.length c] 29)
  have bx := Blk.new w 29 #[.slice At m ct, .slice A T.length c]
  have HA := Lib.hid (hA.below hm)
  have B1 := Lib.hid hm
  have FO := Lib.hid (fun k (hu : Upto (isG n) T k) (hk : k < T.length) (hp : isG n T[k] = true) => show ixI (fi (isG n) T) = (k : Int) by rw [hu.found hk hp]; rfl)
  have NO := Lib.hid (fun k (hu : Upto (isG n) T k) (hk : T.length ≤ k) => show ixI (fi (isG n) T) = -1 by rw [hu.none hk]; rfl)
  have c0 := bx.cell 1
  clear hm bx hA
  generalize hw1 : w.alloc (.cells #[.slice At m ct, .slice A T.length c] 29) = w1 at *
  generalize ixI (fi (isG n) T) = r at *
  go_enter Try.func12, Try.ntmps12
  go_wp2_with (rw [hw1])
  clear hw1
  go_loop [5] (fun i => ∃ k : Nat, k ≤ T.length ∧ i = .int .i64 k ∧ Upto (isG n) T k) (fun i => T.length - (intOf i).toNat)
  case atStart => exact ⟨0, by omega, rfl, Upto.zero _ _⟩
  case round =>
    obtain ⟨k, hk, rfl, hup⟩ := hrel
    have U := Lib.hid hup
    clear hup
    by_cases hlt : k < T.length
    · obtain ⟨bb, off, rfl, e0, e1, e2⟩ := lay3 HA.out hlt
      have F1 := Lib.hid (FO.out k U.out hlt)
      have S1 := Lib.hid (fun hp => U.out.succ hlt hp)
      have IS := Lib.hid (show isG n T[k] = (T[k].2.1 == n) from rfl)
      generalize T[k] = d at *
      obtain ⟨d0, d1, d2⟩ := d
      dsimp only at *
      cases q : (d1 == n) with
      | true =>
        have e := F1.out (by rw [IS.out]; exact q)
        subst e
        go_wp2_with fail
        go_ret
        exact ⟨rfl, B1.out⟩
      | false =>
        go_wp2_with fail
        go_round
        case rel => exact ⟨k + 1, by omega, by go_num, S1.out (by rw [IS.out]; exact q)⟩
        case measure => simp [intOf] <;> omega
    · have e := NO.out k U.out (by omega)
      subst e
      go_wp2_with fail
      go_ret
      exact ⟨rfl, B1.out⟩

theorem of_snoc (G : List G3) (n : Int) {k : Nat} (hk : k < G.length) : ofL (G.take (k + 1)) n = if G[k].1 = n then ofL (G.take k) n ++ [G[k]] else ofL (G.take k) n := by
  unfold ofL
  rw [List.take_succ_eq_append_getElem hk, List.filter_append]
  by_cases e : G[k].1 = n
  · rw [if_pos e]; simp [e]
  · rw [if_neg e]; simp [e]
theorem of_len (G : List G3) (n : Int) : (ofL G n).length ≤ G.length := List.length_filter_le _ _
def NewG (w : World) (L : List G3) (e : Ending) (w' : World) : Prop := ∃ v, e = .returned v ∧ Own E3 w' w.heap.size 69 v L ∧ Below w.heap.size w w'
set_option maxRecDepth 100000 in
set_option maxHeartbeats 4000000 in
theorem rof_any (A : Option Addr) (c : Nat) (T : List G3) (At : Option Addr) (m ct : Nat) (n : Int) (w : World) (hA : Lay E3 w A T) (hl : T.length ≤ 100000) :
    Calls Try.prog 34 #[.agg #[.slice At m ct, .slice A T.length c], .int .i64 n] w (NewG w (ofL T n)) := by
  have hm := made w (.cells #[.slice At m ct, .slice A T.length c] 29)
  have BX := Lib.hid (Blk.new w 29 #[.slice At m ct, .slice A T.length c])
  have HA := Lib.hid (hA.below hm)
  have B1 := Lib.hid hm
  clear hm hA
  generalize hw1 : w.alloc (.cells #[.slice At m ct, .slice A T.length c] 29) = w1 at *
  go_enter Try.func34, Try.ntmps34
  go_wp2_with (rw [hw1])
  clear hw1
  go_loopw [5, 6] (fun o i wr => ∃ (k : Nat) (W : World), W = wr ∧ k ≤ T.length ∧ i = .int .i64 k ∧ Own E3 wr w1.heap.size 69 o (ofL (T.take k) n) ∧ Below w1.heap.size w1 wr) (fun _ i _ => T.length - (intOf i).toNat)
  case atStart => exact ⟨0, _, rfl, by omega, rfl, Own.nil _ _ _, Below.refl _ _⟩
  case round =>
  obtain ⟨k, w3, rfl, hk, rfl, ho, hb⟩ := hrel
  have O3 := Lib.hid ho
  have B3 := Lib.hid hb
  have c1 := (BX.out.below hb BX.out.lt).cell 1
  by_cases hkl : k < T.length
  · obtain ⟨bb, off, rfl, e0, e1, e2⟩ := lay3 (HA.out.below hb) hkl
    have TK := Lib.hid (of_snoc T n hkl)
    have TL := Lib.hid (show (ofL (T.take k) n).length ≤ 100000 by have := of_len (T.take k) n; rw [List.length_take] at this; omega)
    clear ho hb
    generalize T[k] = d at *
    obtain ⟨d0, d1, d2⟩ := d
    dsimp only at *
    by_cases q : d0 = n
    · subst q
      rw [if_pos rfl] at TK
      have hm := made w3 (.cells #[.int .i64 d0, .int .i64 d1, .int .i64 d2] 69)
      have O4 := Lib.hid (O3.out.below hm)
      have B4 := Lib.hid (up B3.out hm B3.out.size)
      have LY := Lib.hid (Lay.lit (E := E3) (w3.alloc (.cells #[.int .i64 d0, .int .i64 d1, .int .i64 d2] 69)) (d0, d1, d2) 69 w3.heap.size (Blk.new _ _ _))
      clear hm
      generalize hw4 : w3.alloc (.cells #[.int .i64 d0, .int .i64 d1, .int .i64 d2] 69) = w4 at *
      go_wp2_with (first | rw [hw4] | ((with_reducible show wpList _ _ _ (⟨some 29, _, _, _, _, _⟩ :: _) _ _); go_must (refine wp_app TR (c := 1) (n := 1) rfl _ _ rfl rfl rfl rfl rfl O4.out LY.out (by simp; have := TL.out; omega) B4.out.size ?_)))
      intro v5 w5 own5 gr5
      have B5 := Lib.hid (B4.out.trans (gr5.below O4.out B4.out.size))
      rw [← TK.out] at own5
      have O5 := Lib.hid own5
      obtain ⟨A5, c5, rfl, -⟩ := own5.open_
      clear own5 gr5 O4 LY hw4 e0 e1 e2 c1
      go_wp2_with fail
      refine ⟨⟨k + 1, _, rfl, by omega, by go_num, O5.out, B5.out⟩, by simp [intOf]; omega⟩
    · rw [if_neg q] at TK
      have q2 : (d0 == n) = false := by simpa using q
      clear q
      go_wp2_with fail
      refine ⟨⟨k + 1, _, rfl, by omega, by go_num, by rw [TK.out]; exact O3.out, B3.out⟩, by simp [intOf]; omega⟩
  · obtain rfl : k = T.length := by omega
    rw [List.take_length] at O3
    obtain ⟨A5, c5, rfl, -⟩ := ho.open_
    clear ho hb
    go_wp2_with fail
    go_ret
    exact ⟨_, rfl, O3.out.mono B1.out.size, up B1.out B3.out B1.out.size⟩
end Go.Proofs.Ythnjacfpnbhfpaa.st
