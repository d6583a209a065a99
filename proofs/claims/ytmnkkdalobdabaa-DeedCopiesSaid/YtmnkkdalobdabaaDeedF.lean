/-
  The reference's deeds: where one is found, what somebody holds.
-/
import Derived.Test.YtmnkkdalobdabaaDeedE
namespace Go.Proofs.Ytmnkkdalobdabaa.dd
open Go.RowKit
open base (ret_bool ret_int made up Blk Only Nums)
open rk
set_option linter.unusedVariables false
set_option linter.unusedSimpArgs false

set_option maxRecDepth 100000 in
set_option maxHeartbeats 2000000 in
theorem rfind_any (A : Option Addr) (c : Nat) (L : List D) (nx n : Int) (w : World) (hA : Lay E3 w A L) (hl : L.length ≤ 100000) :
    Calls Try.prog 15 #[.agg #[.slice A L.length c, .int .i64 nx], .int .i64 n] w fun e w' => e = .returned (.int .i64 (ix (fi (isId n) L))) ∧ Below w.heap.size w w' := by
  have hm := made w (.cells #[.slice A L.length c, .int .i64 nx] 28)
  have bx : Blk (w.alloc (.cells #[.slice A L.length c, .int .i64 nx] 28)) w.heap.size 28 #[.slice A L.length c, .int .i64 nx] := Blk.new _ _ _
  have b0 := bx.cell 0
  have HA := Lib.hid (hA.below hm)
  have M := Lib.hid hm
  clear hA hm bx
  generalize hw1 : w.alloc (.cells #[.slice A L.length c, .int .i64 nx] 28) = w1 at *
  go_enter Try.func15, Try.ntmps15
  go_wp2_with (rw [hw1])
  go_loop [5] (fun i => ∃ k : Nat, i = .int .i64 k ∧ k ≤ L.length ∧ Upto (isId n) L k) (fun i => L.length - (intOf i).toNat)
  case atStart => exact ⟨0, rfl, by omega, Upto.zero _ _⟩
  case round =>
    obtain ⟨k, rfl, hk, hno⟩ := hrel
    have NO := Lib.hid hno
    clear hno
    by_cases hkl : k < L.length
    · obtain ⟨b, off, rfl, e0, e1, e2⟩ := lay3 HA.out hkl
      obtain ⟨d, hd⟩ : ∃ d, d = L[k] := ⟨_, rfl⟩
      rw [← hd] at e0 e1 e2
      have DD := Lib.hid hd
      clear hd
      obtain ⟨d0, d1, d2⟩ := d
      dsimp only at e0 e1 e2
      obtain ⟨q, hq⟩ : ∃ q, q = (d0 == n) := ⟨_, rfl⟩
      have Q := Lib.hid (show q = isId n L[k] by rw [hq, ← DD.out]; rfl)
      have hq2 := hq.symm
      clear hq
      cases q with
      | true =>
        go_wp2_with fail
        go_ret
        exact ⟨by rw [NO.out.found hkl Q.out.symm]; rfl, M.out⟩
      | false =>
        go_wp2_with fail
        refine ⟨⟨k + 1, by go_num, by omega, NO.out.succ hkl Q.out.symm⟩, by simp [intOf]; omega⟩
    · go_wp2_with fail
      go_ret
      exact ⟨by rw [NO.out.none (by omega)]; rfl, M.out⟩

set_option maxRecDepth 100000 in
set_option maxHeartbeats 2000000 in
theorem rof_any (A : Option Addr) (c : Nat) (L : List D) (nx n : Int) (w : World) (hA : Lay E3 w A L) (hl : L.length ≤ 100000) :
    Calls Try.prog 17 #[.agg #[.slice A L.length c, .int .i64 nx], .int .i64 n] w fun e w' => e = .returned (.int .i64 (ix (fi (isPlot n) L))) ∧ Below w.heap.size w w' := by
  have hm := made w (.cells #[.slice A L.length c, .int .i64 nx] 28)
  have bx : Blk (w.alloc (.cells #[.slice A L.length c, .int .i64 nx] 28)) w.heap.size 28 #[.slice A L.length c, .int .i64 nx] := Blk.new _ _ _
  have b0 := bx.cell 0
  have HA := Lib.hid (hA.below hm)
  have M := Lib.hid hm
  clear hA hm bx
  generalize hw1 : w.alloc (.cells #[.slice A L.length c, .int .i64 nx] 28) = w1 at *
  go_enter Try.func17, Try.ntmps17
  go_wp2_with (rw [hw1])
  go_loop [5] (fun i => ∃ k : Nat, i = .int .i64 k ∧ k ≤ L.length ∧ Upto (isPlot n) L k) (fun i => L.length - (intOf i).toNat)
  case atStart => exact ⟨0, rfl, by omega, Upto.zero _ _⟩
  case round =>
    obtain ⟨k, rfl, hk, hno⟩ := hrel
    have NO := Lib.hid hno
    clear hno
    by_cases hkl : k < L.length
    · obtain ⟨b, off, rfl, e0, e1, e2⟩ := lay3 HA.out hkl
      obtain ⟨d, hd⟩ : ∃ d, d = L[k] := ⟨_, rfl⟩
      rw [← hd] at e0 e1 e2
      have DD := Lib.hid hd
      clear hd
      obtain ⟨d0, d1, d2⟩ := d
      dsimp only at e0 e1 e2
      obtain ⟨q, hq⟩ : ∃ q, q = (d1 == n) := ⟨_, rfl⟩
      have Q := Lib.hid (show q = isPlot n L[k] by rw [hq, ← DD.out]; rfl)
      have hq2 := hq.symm
      clear hq
      cases q with
      | true =>
        go_wp2_with fail
        go_ret
        exact ⟨by rw [NO.out.found hkl Q.out.symm]; rfl, M.out⟩
      | false =>
        go_wp2_with fail
        refine ⟨⟨k + 1, by go_num, by omega, NO.out.succ hkl Q.out.symm⟩, by simp [intOf]; omega⟩
    · go_wp2_with fail
      go_ret
      exact ⟨by rw [NO.out.none (by omega)]; rfl, M.out⟩

set_option maxRecDepth 100000 in
set_option maxHeartbeats 2000000 in
theorem rheld_any (A : Option Addr) (c : Nat) (L : List D) (nx n : Int) (w : World) (hA : Lay E3 w A L) (hl : L.length ≤ 100000) :
    Calls Try.prog 19 #[.agg #[.slice A L.length c, .int .i64 nx], .int .i64 n] w fun e w' => ∃ v, e = .returned v ∧ Own E1 w' w.heap.size 3 v (held L n) ∧ Below w.heap.size w w' := by
  have hm := made w (.cells #[.slice A L.length c, .int .i64 nx] 28)
  have bx : Blk (w.alloc (.cells #[.slice A L.length c, .int .i64 nx] 28)) w.heap.size 28 #[.slice A L.length c, .int .i64 nx] := Blk.new _ _ _
  have BX := Lib.hid bx
  have HA := Lib.hid (hA.below hm)
  have M := Lib.hid hm
  clear hA hm bx
  generalize hw1 : w.alloc (.cells #[.slice A L.length c, .int .i64 nx] 28) = w1 at *
  go_enter Try.func19, Try.ntmps19
  go_wp2_with (rw [hw1])
  go_loopw [5, 6] (fun o i wr => ∃ (k : Nat) (W : World), W = wr ∧ k ≤ L.length ∧ i = .int .i64 k ∧ Own E1 wr w.heap.size 3 o (held (L.take k) n) ∧ Below w1.heap.size w1 wr) (fun _ i _ => L.length - (intOf i).toNat)
  case atStart => exact ⟨0, _, rfl, by omega, rfl, Own.nil _ _ _, Below.refl _ _⟩
  case round =>
    obtain ⟨k, w2, rfl, hk, rfl, ho, hb2⟩ := hrel
    have B2 := Lib.hid hb2
    have O2 := Lib.hid ho
    have b0 := (BX.out.below hb2 BX.out.lt).cell 0
    by_cases hkl : k < L.length
    · obtain ⟨b, off, rfl, e0, e1, e2⟩ := lay3 (HA.out.below hb2) hkl
      have SN := Lib.hid (held_snoc L n hkl)
      have SL := Lib.hid (show (held (L.take k) n).length ≤ 100000 by have := held_le (L.take k) n; rw [List.length_take] at this; omega)
      generalize L[k] = d at *
      obtain ⟨d0, d1, d2⟩ := d
      dsimp only at e0 e1 e2 SN
      clear hb2 ho
      cases q : (d2 == n) with
      | true =>
        rw [q, if_pos rfl] at SN
        have O4 := Lib.hid (O2.out.below (made w2 (.cells #[.int .i64 d0] 3)))
        have LY := Lib.hid (Lay.lit (E := E1) (w2.alloc (.cells #[.int .i64 d0] 3)) d0 3 w2.heap.size (Blk.new _ _ _))
        have B4 := Lib.hid (up B2.out (made w2 (.cells #[.int .i64 d0] 3)) B2.out.size)
        have B0 := Lib.hid (up M.out B4.out M.out.size)
        go_wp2_with ((with_reducible show wpList _ _ _ (⟨some 30, _, _, _, _, _⟩ :: _) _ _); go_must (refine wp_app TI (c := 1) (n := 1) rfl _ _ rfl rfl rfl rfl rfl O4.out LY.out (by simp; have := SL.out; omega) B0.out.size ?_))
        intro v2 w5 own2 grew2
        have B5 := Lib.hid (show Below w1.heap.size w1 w5 from ⟨(grew2.below O4.out B0.out.size).os.trans B4.out.os, (grew2.below O4.out B0.out.size).tape.trans B4.out.tape, (grew2.below O4.out B0.out.size).output.trans B4.out.output, Nat.le_trans B4.out.size (grew2.below O4.out B0.out.size).size, fun j hj => by
          rw [grew2.grown.block j (Nat.lt_of_lt_of_le hj B4.out.size) (fun e => ?_)]
          · exact B4.out.block j hj
          · obtain ⟨_, _, cs, hbk⟩ := O4.out.lt' j e.symm
            have hj2 : j < w1.heap.size := hj
            rw [← hw1] at hj2
            rw [asz] at hj2
            have hge := (O4.out.lt' j e.symm).1
            obtain rfl : j = w.heap.size := by omega
            exact (ty_ne (BX.out.below B4.out BX.out.lt) hbk (by decide)) rfl⟩)
        have O5 := Lib.hid own2
        obtain ⟨A2, c2, rfl, -⟩ := O5.out.open_
        clear own2 grew2 O4 LY B4 e0 e1 e2 b0
        go_wp2_with fail
        refine ⟨⟨k + 1, _, rfl, by omega, by go_num, by rw [SN.out]; exact O5.out, B5.out⟩, by simp [intOf]; omega⟩
      | false =>
        rw [q, if_neg (by simp)] at SN
        go_wp2_with fail
        refine ⟨⟨k + 1, _, rfl, by omega, by go_num, by rw [SN.out]; exact O2.out, B2.out⟩, by simp [intOf]; omega⟩
    · obtain rfl : k = L.length := by omega
      rw [List.take_length] at ho
      clear hb2 O2
      obtain ⟨A2, c2, rfl, -⟩ := ho.open_
      go_wp2_with fail
      go_ret
      exact ⟨_, rfl, ho, up M.out B2.out M.out.size⟩
set_option maxHeartbeats 1000000 in
theorem rmay_any (A : Option Addr) (c : Nat) (L : List D) (nx n : Int) (w : World) (hA : Lay E3 w A L) (hl : L.length ≤ 100000) :
    Calls Try.prog 10 #[.agg #[.slice A L.length c, .int .i64 nx], .int .i64 n] w fun e w' => e = .returned (.int .i64 (may L n)) ∧ Below w.heap.size w w' := by
  have hm := made w (.cells #[.slice A L.length c, .int .i64 nx] 28)
  have bx : Blk (w.alloc (.cells #[.slice A L.length c, .int .i64 nx] 28)) w.heap.size 28 #[.slice A L.length c, .int .i64 nx] := Blk.new _ _ _
  have b0 := bx.cell 0
  have b1 := bx.cell 1
  have M := Lib.hid hm
  have HE := Lib.hid (rheld_any A c L nx n _ (hA.below hm) hl)
  have MA := Lib.hid (show may L n = if n < 1 then 10 else if 3 ≤ (held L n).length then 34 else 0 from rfl)
  have HS := held_short L n
  generalize may L n = m at *
  clear hA hm bx
  generalize hw1 : w.alloc (.cells #[.slice A L.length c, .int .i64 nx] 28) = w1 at *
  by_cases q : n < 1
  · rw [if_pos q] at MA
    go_enter Try.func10, Try.ntmps10
    go_wp2_with (rw [hw1])
    go_ret
    exact ⟨ret_int MA.out.symm, M.out⟩
  · rw [if_neg q] at MA
    go_enter Try.func10, Try.ntmps10
    go_wp2_with (rw [hw1])
    refine HE.out.mono ?_
    rintro e w2 ⟨v, rfl, ho, hb2⟩
    obtain ⟨A2, c2, rfl, -, h1, h2⟩ := ho.open_
    have B2 := Lib.hid (up M.out hb2 M.out.size)
    clear ho hb2 HE
    generalize (held L n).length = hn at *
    by_cases q3 : 3 ≤ hn
    · rw [if_pos q3] at MA
      go_wp2_with fail
      go_ret
      exact ⟨ret_int MA.out.symm, B2.out⟩
    · rw [if_neg q3] at MA
      go_wp2_with fail
      go_ret
      exact ⟨ret_int MA.out.symm, B2.out⟩
end Go.Proofs.Ytmnkkdalobdabaa.dd
