/-
  Contracts of package bid: what is asked; the reference's Find, Of.
-/
import Derived.Test.YtlklfolpcebahaaAucH
import Derived.Test.YtlklfolpcebahaaBidD
namespace Go.Proofs.Ytlklfolpcebahaa.bb
open Go.RowKit
open base (ret_bool ret_int made up Blk Only Nums)
open rk
set_option linter.unusedVariables false
set_option linter.unusedSimpArgs false

theorem asks_is {d : D} (h : 0 ≤ best d) : asks d = bd.askOf d.2.2.2.1 (best d) d.2.2.2.2.2.1 := by
  unfold asks bd.askOf bd.stepOf
  split
  · rfl
  · split <;> split <;> omega
set_option maxHeartbeats 1000000 in
theorem asks_any (d0 d1 d2 d3 d4 d5 d6 : Int) (w : World) (hb : 0 ≤ d4 ∧ d4 ≤ 1099511627776) :
    Calls Try.prog 34 #[(.agg #[.int .i64 d0, .int .i64 d1, .int .i64 d2, .int .i64 d3, .int .i64 d4, .int .i64 d5, .int .i64 d6])] w fun e w' => e = .returned (.int .i64 (bd.askOf d3 d4 d5)) ∧ Below w.heap.size w w' := by
  have hm := Lib.hid (made w (.cells #[.int .i64 d0, .int .i64 d1, .int .i64 d2, .int .i64 d3, .int .i64 d4, .int .i64 d5, .int .i64 d6] 35))
  have ST := Lib.hid (bd.step_ok d4 (w.alloc (.cells #[.int .i64 d0, .int .i64 d1, .int .i64 d2, .int .i64 d3, .int .i64 d4, .int .i64 d5, .int .i64 d6] 35)) hb.1 hb.2)
  have AO := Lib.hid (show bd.askOf d3 d4 d5 = if d5 = 0 then d3 else d4 + bd.stepOf d4 from rfl)
  obtain ⟨hs0, hs1⟩ := bd.step_le hb.1 hb.2
  obtain ⟨hb0, hb1⟩ := hb
  generalize bd.askOf d3 d4 d5 = a at *
  generalize bd.stepOf d4 = s at *
  by_cases hp0 : d5 = 0
  · rw [if_pos hp0] at AO
    have q : (d5 == 0) = true := by simpa using hp0
    clear hp0
    go_enter Try.func34, Try.ntmps34
    go_wp2_with fail
    go_ret
    exact ⟨ret_int AO.out.symm, hm.out⟩
  · rw [if_neg hp0] at AO
    have q : (d5 == 0) = false := by simpa using hp0
    clear hp0
    go_enter Try.func34, Try.ntmps34
    go_wp2_with fail
    refine ST.out.mono ?_
    rintro e w' ⟨rfl, rfl⟩
    go_wp2_with fail
    go_ret
    exact ⟨ret_int AO.out.symm, hm.out⟩
set_option maxRecDepth 100000 in
set_option maxHeartbeats 2000000 in
theorem rfind_any (A : Option Addr) (c : Nat) (L : List D) (nx n : Int) (w : World) (hA : Lay E7 w A L) (hl : L.length ≤ 100000) :
    Calls Try.prog 13 #[.agg #[.slice A L.length c, .int .i64 nx], .int .i64 n] w fun e w' => e = .returned (.int .i64 (ix (fi (isId n) L))) ∧ Below w.heap.size w w' := by
  have hm := made w (.cells #[.slice A L.length c, .int .i64 nx] 28)
  have bx : Blk (w.alloc (.cells #[.slice A L.length c, .int .i64 nx] 28)) w.heap.size 28 #[.slice A L.length c, .int .i64 nx] := Blk.new _ _ _
  have b0 := bx.cell 0
  have HA := Lib.hid (hA.below hm)
  have M := Lib.hid hm
  clear hA hm bx
  generalize hw1 : w.alloc (.cells #[.slice A L.length c, .int .i64 nx] 28) = w1 at *
  go_enter Try.func13, Try.ntmps13
  go_wp2_with (rw [hw1])
  go_loop [5] (fun i => ∃ k : Nat, i = .int .i64 k ∧ k ≤ L.length ∧ Upto (isId n) L k) (fun i => L.length - (intOf i).toNat)
  case atStart => exact ⟨0, rfl, by omega, Upto.zero _ _⟩
  case round =>
    obtain ⟨k, rfl, hk, hno⟩ := hrel
    have NO := Lib.hid hno
    clear hno
    by_cases hkl : k < L.length
    · obtain ⟨b, off, rfl, e0, e1, e2, e3, e4, e5, e6⟩ := lay7 HA.out hkl
      obtain ⟨d, hd⟩ : ∃ d, d = L[k] := ⟨_, rfl⟩
      rw [← hd] at e0 e1 e2 e3 e4 e5 e6
      have DD := Lib.hid hd
      clear hd
      obtain ⟨d0, d1, d2, d3, d4, d5, d6⟩ := d
      dsimp only at e0 e1 e2 e3 e4 e5 e6
      obtain ⟨q, hq⟩ : ∃ q, q = (d0 == n) := ⟨_, rfl⟩
      have Q := Lib.hid (show q = isId n L[k] by rw [hq, ← DD.out]; rfl)
      have hq2 := hq.symm
      clear hq
      cases q with
      | true =>
        go_wp2_with fail
        go_ret
        exact ⟨by rw [NO.out.found hkl Q.out.symm]; rfl, M.out⟩
      | false =>
        go_wp2_with fail
        refine ⟨⟨k + 1, by go_num, by omega, NO.out.succ hkl Q.out.symm⟩, by simp [intOf]; omega⟩
    · go_wp2_with fail
      go_ret
      exact ⟨by rw [NO.out.none (by omega)]; rfl, M.out⟩

set_option maxRecDepth 100000 in
set_option maxHeartbeats 2000000 in
theorem rof_any (A : Option Addr) (c : Nat) (L : List D) (nx n : Int) (w : World) (hA : Lay E7 w A L) (hl : L.length ≤ 100000) :
    Calls Try.prog 14 #[.agg #[.slice A L.length c, .int .i64 nx], .int .i64 n] w fun e w' => e = .returned (.int .i64 (ix (fi (isDeed n) L))) ∧ Below w.heap.size w w' := by
  have hm := made w (.cells #[.slice A L.length c, .int .i64 nx] 28)
  have bx : Blk (w.alloc (.cells #[.slice A L.length c, .int .i64 nx] 28)) w.heap.size 28 #[.slice A L.length c, .int .i64 nx] := Blk.new _ _ _
  have b0 := bx.cell 0
  have HA := Lib.hid (hA.below hm)
  have M := Lib.hid hm
  clear hA hm bx
  generalize hw1 : w.alloc (.cells #[.slice A L.length c, .int .i64 nx] 28) = w1 at *
  go_enter Try.func14, Try.ntmps14
  go_wp2_with (rw [hw1])
  go_loop [5] (fun i => ∃ k : Nat, i = .int .i64 k ∧ k ≤ L.length ∧ Upto (isDeed n) L k) (fun i => L.length - (intOf i).toNat)
  case atStart => exact ⟨0, rfl, by omega, Upto.zero _ _⟩
  case round =>
    obtain ⟨k, rfl, hk, hno⟩ := hrel
    have NO := Lib.hid hno
    clear hno
    by_cases hkl : k < L.length
    · obtain ⟨b, off, rfl, e0, e1, e2, e3, e4, e5, e6⟩ := lay7 HA.out hkl
      obtain ⟨d, hd⟩ : ∃ d, d = L[k] := ⟨_, rfl⟩
      rw [← hd] at e0 e1 e2 e3 e4 e5 e6
      have DD := Lib.hid hd
      clear hd
      obtain ⟨d0, d1, d2, d3, d4, d5, d6⟩ := d
      dsimp only at e0 e1 e2 e3 e4 e5 e6
      obtain ⟨q, hq⟩ : ∃ q, q = (d1 == n) := ⟨_, rfl⟩
      have Q := Lib.hid (show q = isDeed n L[k] by rw [hq, ← DD.out]; rfl)
      have hq2 := hq.symm
      clear hq
      cases q with
      | true =>
        go_wp2_with fail
        go_ret
        exact ⟨by rw [NO.out.found hkl Q.out.symm]; rfl, M.out⟩
      | false =>
        go_wp2_with fail
        refine ⟨⟨k + 1, by go_num, by omega, NO.out.succ hkl Q.out.symm⟩, by simp [intOf]; omega⟩
    · go_wp2_with fail
      go_ret
      exact ⟨by rw [NO.out.none (by omega)]; rfl, M.out⟩

end Go.Proofs.Ytlklfolpcebahaa.bb
