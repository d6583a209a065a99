/-
  The reference's chests: Len, Place, Without.
-/
import Derived.Test.YtknkcdhdfojifaaChD
namespace Go.Proofs.Ytknkcdhdfojifaa.ch
open Go.RowKit
open base (ret_bool ret_int made up Blk Only)
open rk mk
set_option linter.unusedVariables false
set_option linter.unusedSimpArgs false

theorem lay2 {w : World} {A : Option Addr} {L : List C2} (h : Lay E2 w A L) {k : Nat} (hk : k < L.length) : ∃ b off, A = some ⟨b, off, none⟩ ∧ w.cell? ⟨b, off + k * 2, none⟩ = some (.int .i64 L[k].1) ∧ w.cell? ⟨b, off + k * 2 + 1, none⟩ = some (.int .i64 L[k].2) := by
  obtain ⟨b, off, e, _, hc⟩ := h (by omega)
  exact ⟨b, off, e, hc k hk 0 (by decide), hc k hk 1 (by decide)⟩
theorem lay2_at {w : World} {b off : Nat} {L : List C2} (h : Lay E2 w (some ⟨b, off, none⟩) L) {k : Nat} (hk : k < L.length) {d : C2} (hd : L[k] = d) : w.cell? ⟨b, off + k * 2, none⟩ = some (.int .i64 d.1) ∧ w.cell? ⟨b, off + k * 2 + 1, none⟩ = some (.int .i64 d.2) := by
  obtain ⟨b', off', e, h1⟩ := lay2 h hk
  injection e with e
  injection e with e1 e2
  subst e1 e2 hd
  exact h1
theorem nd_take (L : List C2) (n : Int) {k : Nat} (hk : k < L.length) : nd (L.take (k + 1)) n = if L[k].1 = n then nd (L.take k) n ++ [L[k].2] else nd (L.take k) n := by
  rw [List.take_succ_eq_append_getElem hk]
  exact nd_snoc _ _ _ _
set_option maxRecDepth 100000 in
set_option maxHeartbeats 4000000 in
theorem rlen_any (A : Option Addr) (c : Nat) (L : List C2) (n : Int) (w : World) (hA : Lay E2 w A L) (hl : L.length ≤ 100000) :
    Calls Try.prog 21 #[.slice A L.length c, .int .i64 n] w fun e w' => e = .returned (.int .i64 ((nd L n).length : Nat)) ∧ w = w' := by
  go_enter Try.func21, Try.ntmps21
  go_wp2_with fail
  go_loop [5, 6] (fun m j => ∃ k z : Nat, k ≤ L.length ∧ j = .int .i64 k ∧ m = .int .i64 z ∧ z = (nd (L.take k) n).length) (fun m j => L.length - (intOf j).toNat)
  case atStart => exact ⟨0, 0, by omega, rfl, rfl, rfl⟩
  case round =>
    obtain ⟨k, z, hk, rfl, rfl, hz⟩ := hrel
    have HZ := Lib.hid hz
    have hzl : z ≤ 100000 := by
      have := nd_len (L.take k) n
      rw [List.length_take] at this
      omega
    clear hz
    by_cases hkl : k < L.length
    · obtain ⟨b, off, rfl, e0, -⟩ := lay2 hA hkl
      have TK := Lib.hid (nd_take L n hkl)
      have HA := Lib.hid hA
      clear hA
      generalize L[k] = d at *
      by_cases q : d.1 = n
      · rw [if_pos q] at TK
        have q1 : (d.1 == n) = true := by simpa using q
        have F2 := Lib.hid (show z + 1 = (nd (L.take (k + 1)) n).length by rw [TK.out]; simp; exact HZ.out)
        clear q TK HZ
        go_wp2_with fail
        refine ⟨⟨k + 1, z + 1, by omega, by go_num, by go_num, F2.out⟩, by simp [intOf]; omega⟩
      · rw [if_neg q] at TK
        have q1 : (d.1 == n) = false := by simpa using q
        have F2 := Lib.hid (show z = (nd (L.take (k + 1)) n).length by rw [TK.out]; exact HZ.out)
        clear q TK HZ
        go_wp2_with fail
        refine ⟨⟨k + 1, z, by omega, by go_num, rfl, F2.out⟩, by simp [intOf]; omega⟩
    · obtain rfl : k = L.length := by omega
      rw [List.take_length] at HZ
      go_wp2_with fail
      go_ret
      exact ⟨by rw [← HZ.out]; rfl, rfl⟩
def ixc : Option Nat → Int
  | some i => i
  | none => -1
/-- how far the search has come: what is left of i, or that it will find nothing -/
def Left (L : List C2) (n i : Int) (k : Nat) (z : Int) : Prop := (1 ≤ z ∧ z ≤ 9223372036854775807 ∧ plc L n i = (plc (L.drop k) n z).map (· + k)) ∨ (plc L n i = none ∧ (-9223372036854775808 ≤ z ∧ z ≤ 0 ∨ 9223372036854775807 - k < z ∧ z ≤ 9223372036854775807))
theorem Left.start {L : List C2} {n i : Int} (h : -9223372036854775808 ≤ i) (h' : i ≤ 9223372036854775807) : Left L n i 0 i := by
  rcases Int.lt_or_le i 1 with q | q
  · exact .inr ⟨plc_low L n i q, .inl ⟨h, by omega⟩⟩
  · refine .inl ⟨q, h', ?_⟩
    rw [List.drop_zero]
    cases plc L n i <;> rfl
theorem plc_at {L : List C2} {k : Nat} (hk : k < L.length) (n z : Int) : plc (L.drop k) n z = if L[k].1 = n then (if z = 1 then some 0 else (plc (L.drop (k + 1)) n (z - 1)).map (· + 1)) else (plc (L.drop (k + 1)) n z).map (· + 1) := by
  rw [List.drop_eq_getElem_cons hk]
  rfl
theorem map_add (o : Option Nat) (k : Nat) : (o.map (· + 1)).map (· + k) = o.map (· + (k + 1)) := by
  cases o with
  | none => rfl
  | some v => simp; omega
theorem Left.other {L : List C2} {n i : Int} {k : Nat} {z : Int} (h : Left L n i k z) (hk : k < L.length) (hn : L[k].1 ≠ n) : Left L n i (k + 1) z := by
  rcases h with ⟨h1, h2, h3⟩ | ⟨h1, h2⟩
  · rw [plc_at hk, if_neg hn, map_add] at h3
    exact .inl ⟨h1, h2, h3⟩
  · refine .inr ⟨h1, ?_⟩
    rcases h2 with q | q
    · exact .inl q
    · exact .inr ⟨by omega, q.2⟩
theorem Left.one {L : List C2} {n i : Int} {k : Nat} (h : Left L n i k 1) (hk : k < L.length) (hl : L.length ≤ 100000) (hn : L[k].1 = n) : plc L n i = some k := by
  rcases h with ⟨h1, h2, h3⟩ | ⟨h1, h2⟩
  · rw [plc_at hk, if_pos hn, if_pos rfl] at h3
    simpa using h3
  · omega
theorem Left.next {L : List C2} {n i : Int} {k : Nat} {z : Int} (h : Left L n i k z) (hk : k < L.length) (hl : L.length ≤ 100000) (hn : L[k].1 = n) (hz : z ≠ 1) : Left L n i (k + 1) (IntKind.i64.wrap (z - 1)) := by
  rcases h with ⟨h1, h2, h3⟩ | ⟨h1, h2⟩
  · rw [plc_at hk, if_pos hn, if_neg hz, map_add] at h3
    rw [IntWalk.i64_in _ (by omega)]
    exact .inl ⟨by omega, by omega, h3⟩
  · refine .inr ⟨h1, ?_⟩
    by_cases e : z = -9223372036854775808
    · subst e
      right
      rw [show IntKind.i64.wrap (-9223372036854775808 - 1) = 9223372036854775807 by decide]
      omega
    · rw [IntWalk.i64_in _ (by omega)]
      rcases h2 with q | q
      · exact .inl (by omega)
      · exact .inr ⟨by omega, by omega⟩
theorem wrap_ne {L : List C2} {n i : Int} {k : Nat} {z : Int} (h : Left L n i k z) (hk : k ≤ 100000) (hz : z ≠ 1) : (IntKind.i64.wrap (z - 1) == 0) = false := by
  by_cases e : z = -9223372036854775808
  · subst e
    decide
  · have : -9223372036854775808 ≤ z - 1 ∧ z - 1 ≤ 9223372036854775807 := by
      rcases h with ⟨h1, h2, h3⟩ | ⟨h1, h2⟩ <;> omega
    rw [IntWalk.i64_in _ (by omega)]
    simp
    omega
theorem Left.none_ {L : List C2} {n i : Int} {k : Nat} {z : Int} (h : Left L n i k z) (hk : L.length ≤ k) : plc L n i = none := by
  rcases h with ⟨h1, h2, h3⟩ | ⟨h1, h2⟩
  · rw [h3, List.drop_of_length_le hk]
    rfl
  · exact h1
set_option maxRecDepth 100000 in
set_option maxHeartbeats 4000000 in
theorem rplace_any (A : Option Addr) (c : Nat) (L : List C2) (n i : Int) (w : World) (hA : Lay E2 w A L) (hl : L.length ≤ 100000) (hi : -9223372036854775808 ≤ i) (hi' : i ≤ 9223372036854775807) :
    Calls Try.prog 12 #[.slice A L.length c, .int .i64 n, .int .i64 i] w fun e w' => e = .returned (.int .i64 (ixc (plc L n i))) ∧ w = w' := by
  have ST := Lib.hid (Left.start (L := L) (n := n) hi hi')
  clear hi hi'
  go_enter Try.func12, Try.ntmps12
  go_wp2_with fail
  go_loop [2, 7] (fun m j => ∃ (k : Nat) (z : Int), k ≤ L.length ∧ j = .int .i64 k ∧ m = .int .i64 z ∧ Left L n i k z) (fun m j => L.length - (intOf j).toNat)
  case atStart => exact ⟨0, i, by omega, rfl, rfl, ST.out⟩
  case round =>
    obtain ⟨k, z, hk, rfl, rfl, hz⟩ := hrel
    have HZ := Lib.hid hz
    clear hz ST
    by_cases hkl : k < L.length
    · obtain ⟨b, off, rfl, e0, -⟩ := lay2 hA hkl
      have HA := Lib.hid hA
      have KK := Lib.hid hkl
      by_cases q : L[k].1 = n
      · by_cases qz : z = 1
        · subst qz
          have F2 := Lib.hid (HZ.out.one KK.out hl q)
          have q1 : (L[k].1 == n) = true := by simpa using q
          have z1 : IntKind.i64.wrap ((1 : Int) - 1) = 0 := by decide
          clear hA HZ q
          generalize L[k] = d at *
          go_wp2_with fail
          go_ret
          exact ⟨by rw [F2.out]; rfl, rfl⟩
        · have F2 := Lib.hid (HZ.out.next KK.out hl q qz)
          have z1 := wrap_ne HZ.out (by omega) qz
          have q1 : (L[k].1 == n) = true := by simpa using q
          obtain ⟨y, hy⟩ : ∃ y, IntKind.i64.wrap (z - 1) = y := ⟨_, rfl⟩
          rw [hy] at z1 F2
          have hy : wrap64 (z - 1) = y := (IntWalk.i64_left _).symm.trans hy
          clear hA HZ q qz
          generalize L[k] = d at *
          go_wp2_with fail
          refine ⟨⟨k + 1, _, by omega, by go_num, rfl, F2.out⟩, by simp [intOf]; omega⟩
      · have F2 := Lib.hid (HZ.out.other KK.out q)
        have q1 : (L[k].1 == n) = false := by simpa using q
        clear hA HZ q
        generalize L[k] = d at *
        go_wp2_with fail
        refine ⟨⟨k + 1, z, by omega, by go_num, rfl, F2.out⟩, by simp [intOf]; omega⟩
    · have F2 := Lib.hid (HZ.out.none_ (by omega))
      clear HZ
      go_wp2_with fail
      go_ret
      exact ⟨by rw [F2.out]; rfl, rfl⟩
def NewP (B : Nat) (L : List C2) (w : World) (e : Ending) (w' : World) : Prop := ∃ v, e = .returned v ∧ Own E2 w' B 37 v L ∧ Below w.heap.size w w'
set_option maxRecDepth 100000 in
set_option maxHeartbeats 4000000 in
theorem rwithout_any (A : Option Addr) (c : Nat) (L : List C2) (n : Int) (B : Nat) (w : World) (hA : Lay E2 w A L) (hl : L.length ≤ 100000) (hB : B ≤ w.heap.size) :
    Calls Try.prog 23 #[.slice A L.length c, .int .i64 n] w (NewP B (woL L n) w) := by
  have HA := Lib.hid hA
  have HB := Lib.hid hB
  clear hA hB
  go_enter Try.func23, Try.ntmps23
  go_wp2_with fail
  go_loopw [5, 6] (fun o j wr => ∃ (k : Nat) (W : World), W = wr ∧ k ≤ L.length ∧ j = .int .i64 k ∧ Own E2 wr w.heap.size 37 o (woL (L.take k) n) ∧ Below w.heap.size w wr) (fun _ j _ => L.length - (intOf j).toNat)
  case atStart => exact ⟨0, _, rfl, by omega, rfl, Own.nil _ _ _, Below.refl _ _⟩
  case round =>
    obtain ⟨k, w5, rfl, hk, rfl, hown, hb5⟩ := hrel
    have O5 := Lib.hid hown
    have B5 := Lib.hid hb5
    by_cases hkl : k < L.length
    · have TK := Lib.hid (wo_snoc L n hkl)
      obtain ⟨bb, off, rfl, e0, e1⟩ := lay2 (HA.out.below hb5) hkl
      clear hown hb5
      have HT := Lib.hid (show (woL (L.take k) n).length + 1 ≤ 100000000 by have := wo_len (L.take k) n; rw [List.length_take] at this; omega)
      generalize L[k] = d at *
      obtain ⟨d0, d1⟩ := d
      dsimp only at e0 e1
      by_cases hq : d0 = n
      · have q : (d0 == n) = true := by simpa using hq
        have q2 : (d0 != n) = false := by simpa using hq
        rw [if_pos (show (d0, d1).1 = n from hq)] at TK
        clear q hq
        go_wp2_with fail
        refine ⟨⟨k + 1, _, rfl, by omega, by go_num, by rw [TK.out]; exact O5.out, B5.out⟩, by simp [intOf]; omega⟩
      · have q : (d0 == n) = false := by simpa using hq
        have q2 : (d0 != n) = true := by simpa using hq
        rw [if_neg (show ¬ (d0, d1).1 = n from hq)] at TK
        clear q hq
        have O6 := Lib.hid (O5.out.below (made w5 (.cells #[.int .i64 d0, .int .i64 d1] 37)))
        have LY := Lib.hid (Lay.lit (E := E2) (w5.alloc (.cells #[.int .i64 d0, .int .i64 d1] 37)) (d0, d1) 37 w5.heap.size (Blk.new _ _ _))
        have B6 := Lib.hid (up B5.out (made w5 (.cells #[.int .i64 d0, .int .i64 d1] 37)) B5.out.size)
        go_wp2_with ((with_reducible show wpList _ _ _ (⟨some 26, _, _, _, _, _⟩ :: _) _ _); go_must (refine wp_app T2 (c := 1) (n := 1) rfl _ _ rfl rfl rfl rfl rfl O6.out LY.out HT.out B6.out.size ?_))
        intro v7 w7 own7 gr7
        have B7 := Lib.hid (B6.out.trans (gr7.below O6.out B6.out.size))
        have O7 := Lib.hid own7
        obtain ⟨A7, c7, rfl, -⟩ := own7.open_
        clear own7 gr7 O6 LY B6 HT
        clear e0 e1
        go_wp2_with fail
        refine ⟨⟨k + 1, _, rfl, by omega, by go_num, ?_, B7.out⟩, by simp [intOf]; omega⟩
        rw [TK.out]
        exact O7.out
    · obtain rfl : k = L.length := by omega
      rw [List.take_length] at O5
      obtain ⟨Av, cv, rfl, -⟩ := O5.out.open_
      clear hown hb5
      go_wp2_with fail
      go_ret
      exact ⟨_, rfl, O5.out.mono HB.out, B5.out⟩
end Go.Proofs.Ytknkcdhdfojifaa.ch
