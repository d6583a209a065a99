/-
  The law's other: the least number from 1 on that no deed has.
-/
import Derived.Test.YtmnkkdalobdabaaDeedS
namespace Go.Proofs.Ytmnkkdalobdabaa.dd
open Go.RowKit
open base (ret_bool ret_int made up Blk Only Nums below_drewN)
open rk
set_option linter.unusedVariables false
set_option linter.unusedSimpArgs false

def key : Bool → D → Int
  | true, d => d.2.1
  | false, d => d.2.2
theorem pigeon (f : D → Int) : ∀ (n : Nat) (L : List D), (∀ j : Nat, 1 ≤ j → j ≤ n → ∃ d, d ∈ L ∧ f d = (j : Int)) → n ≤ L.length
  | 0, L, _ => Nat.zero_le _
  | n + 1, L, h => by
    obtain ⟨d, hd, e⟩ := h (n + 1) (by omega) (by omega)
    have h1 := pigeon f n (L.filter (fun d => !(f d == ((n + 1 : Nat) : Int)))) (fun j j1 j2 => by
      obtain ⟨x, hx, ex⟩ := h j j1 (by omega)
      refine ⟨x, List.mem_filter.2 ⟨hx, ?_⟩, ex⟩
      simp [ex]
      omega)
    have h2 : (L.filter (fun d => !(f d == ((n + 1 : Nat) : Int)))).length < L.length := List.length_filter_lt_length_iff_exists.2 ⟨d, hd, by simp [e]⟩
    omega
theorem any_snoc (L : List D) (p : D → Bool) {t : Nat} (ht : t < L.length) : (L.take (t + 1)).any p = ((L.take t).any p || p L[t]) := by
  rw [List.take_succ_eq_append_getElem ht, List.any_append]
  simp

set_option maxRecDepth 100000 in
set_option maxHeartbeats 4000000 in
theorem other_any (A : Option Addr) (c : Nat) (L : List D) (pl : Bool) (w : World) (hA : Lay E3 w A L) (hl : L.length ≤ 100000) :
    Calls Try.prog 22 #[.slice A L.length c, .bool pl] w fun e w' => ∃ v, e = .returned v ∧ (∃ n : Nat, v = .int .i64 n ∧ 1 ≤ n ∧ n ≤ 100001 ∧ ∀ d, d ∈ L → key pl d ≠ n) ∧ Below w.heap.size w w' := by
  have HA := Lib.hid hA
  clear hA
  go_enter Try.func22, Try.ntmps22
  go_wp2_with fail
  go_loopw [5, 6] (fun s5 s6 wr => ∃ (n : Nat) (W : World), W = wr ∧ s5 = .int .i64 n ∧ 1 ≤ n ∧ n ≤ L.length + 1 ∧ (∀ j : Nat, 1 ≤ j → j < n → ∃ d, d ∈ L ∧ key pl d = (j : Int)) ∧ Below w.heap.size w wr) (fun s5 _ _ => L.length + 2 - (intOf s5).toNat)
  case atStart => exact ⟨1, _, rfl, rfl, by omega, by omega, fun j h1 h2 => by omega, Below.refl _ _⟩
  case round =>
  obtain ⟨n, w2, rfl, rfl, hn1, hn2, hall, hb2⟩ := hrel
  have AL := Lib.hid hall
  have B2 := Lib.hid hb2
  clear hall hb2
  go_wp2_with fail
  go_loopw [6, 13] (fun s6 s13 wr => ∃ (t : Nat) (W : World) (q : Bool), W = wr ∧ t ≤ L.length ∧ s13 = .int .i64 t ∧ q = (L.take t).any (fun d => key pl d == (n : Int)) ∧ s6 = .bool q ∧ Below w.heap.size w wr) (fun _ s13 _ => L.length - (intOf s13).toNat)
  case atStart => exact ⟨0, _, false, rfl, by omega, rfl, rfl, rfl, B2.out⟩
  case round =>
  obtain ⟨t, w3, q, rfl, ht, rfl, hq, rfl, hb3⟩ := hrel
  have QQ := Lib.hid hq
  clear hq
  by_cases htl : t < L.length
  · obtain ⟨b, off, hAx, e0, e1, e2⟩ := lay3 (HA.out.below hb3) htl
    subst hAx
    have AQ := Lib.hid (show ((L.take (t + 1)).any (fun d => key pl d == (n : Int))) = (q || key pl L[t] == (n : Int)) by rw [any_snoc L _ htl, ← QQ.out])
    clear QQ
    generalize L[t] = d at *
    obtain ⟨d0, d1, d2⟩ := d
    dsimp only at e0 e1 e2
    have hm := made w3 (.cells #[.int .i64 d0, .int .i64 d1, .int .i64 d2] 40)
    have B4 := Lib.hid (up hb3 hm hb3.size)
    have bx := Blk.new w3 40 #[.int .i64 d0, .int .i64 d1, .int .i64 d2]
    have x1 := bx.cell 1
    have x2 := bx.cell 2
    clear hm hb3 bx
    obtain ⟨W4, hW4⟩ : ∃ W, W = w3.alloc (.cells #[.int .i64 d0, .int .i64 d1, .int .i64 d2] 40) := ⟨_, rfl⟩
    rw [← hW4] at B4 x1 x2
    have HW4 := Lib.hid hW4.symm
    clear hW4
    cases pl with
    | true =>
      have AN := Lib.hid (show ((L.take (t + 1)).any (fun d => key true d == (n : Int))) = (q || d1 == (n : Int)) from AQ.out)
      clear AQ
      cases q with
      | true =>
        go_wp2_with (rw [HW4.out])
        refine ⟨⟨t + 1, _, true, rfl, by omega, by go_num, by simp [AN.out], rfl, B4.out⟩, by simp [intOf]; omega⟩
      | false =>
        cases hq : (d1 == (n : Int)) with
        | true =>
          rw [hq] at AN
          go_wp2_with (rw [HW4.out])
          refine ⟨⟨t + 1, _, true, rfl, by omega, by go_num, by simp [AN.out], rfl, B4.out⟩, by simp [intOf]; omega⟩
        | false =>
          rw [hq] at AN
          go_wp2_with (rw [HW4.out])
          refine ⟨⟨t + 1, _, false, rfl, by omega, by go_num, by simp [AN.out], rfl, B4.out⟩, by simp [intOf]; omega⟩
    | false =>
      have AN := Lib.hid (show ((L.take (t + 1)).any (fun d => key false d == (n : Int))) = (q || d2 == (n : Int)) from AQ.out)
      clear AQ
      cases q with
      | true =>
        go_wp2_with (rw [HW4.out])
        refine ⟨⟨t + 1, _, true, rfl, by omega, by go_num, by simp [AN.out], rfl, B4.out⟩, by simp [intOf]; omega⟩
      | false =>
        cases hq : (d2 == (n : Int)) with
        | true =>
          rw [hq] at AN
          go_wp2_with (rw [HW4.out])
          refine ⟨⟨t + 1, _, true, rfl, by omega, by go_num, by simp [AN.out], rfl, B4.out⟩, by simp [intOf]; omega⟩
        | false =>
          rw [hq] at AN
          go_wp2_with (rw [HW4.out])
          refine ⟨⟨t + 1, _, false, rfl, by omega, by go_num, by simp [AN.out], rfl, B4.out⟩, by simp [intOf]; omega⟩
  · obtain rfl : t = L.length := by omega
    have B3 := Lib.hid hb3
    rw [List.take_length] at QQ
    clear hb3
    cases q with
    | false =>
      go_wp2_with fail
      go_ret
      exact ⟨_, rfl, ⟨n, rfl, hn1, by omega, fun d hd e => by
        have := List.any_eq_false.1 QQ.out.symm d hd
        simp [e] at this⟩, B3.out⟩
    | true =>
      have PG := Lib.hid (pigeon (key pl) n L (fun j j1 j2 => by
        by_cases e : j = n
        · subst e
          obtain ⟨d, hd, h⟩ := List.any_eq_true.1 QQ.out.symm
          exact ⟨d, hd, by simpa using h⟩
        · exact AL.out j j1 (by omega)))
      have hpg := PG.out
      have wn : IntKind.i64.wrap ((n : Int) + 1) = ((n + 1 : Nat) : Int) := by rw [IntWalk.i64_in _ (by omega)]; omega
      go_wp2_with fail
      refine ⟨⟨n + 1, _, rfl, by go_num, by omega, by omega, fun j j1 j2 => ?_, B3.out⟩, by simp [intOf]; omega⟩
      by_cases e : j = n
      · subst e
        obtain ⟨d, hd, h⟩ := List.any_eq_true.1 QQ.out.symm
        exact ⟨d, hd, by simpa using h⟩
      · exact AL.out j j1 (by omega)
end Go.Proofs.Ytmnkkdalobdabaa.dd
