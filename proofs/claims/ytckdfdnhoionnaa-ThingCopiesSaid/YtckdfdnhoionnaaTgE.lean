/-
  Contracts of package thing: where a number stands; places; what is told of the whole.
-/
import Derived.Test.YtckdfdnhoionnaaTgD
namespace Go.Proofs.Ytckdfdnhoionnaa.tg
open Go.RowKit
open Go.Maps (Keyed)
open base (ret_bool ret_int made up Blk Only)
open rk mk il nm
set_option linter.unusedVariables false
set_option linter.unusedSimpArgs false
variable {B g m K : Nat} {w w1 w2 w5 w' : World} {L : List Th} {nx : Int}

def cm (x y : Int) : Int := if x < y then -1 else if y < x then 1 else 0
set_option maxHeartbeats 400000 in
theorem isnan_any (x : Int) (w : World) : Calls Try.prog 56 #[.int .i64 x] w fun e w' => e = .returned (.bool false) ∧ w = w' := by
  go_enter Try.func56, Try.ntmps56
  go_wp2_with fail
  go_ret
  exact ⟨rfl, rfl⟩
set_option maxHeartbeats 400000 in
theorem compare_any (x y : Int) (w : World) : Calls Try.prog 50 #[.int .i64 x, .int .i64 y] w fun e w' => e = .returned (.int .i64 (cm x y)) ∧ w = w' := by
  have CM := Lib.hid (show cm x y = if x < y then -1 else if y < x then 1 else 0 from rfl)
  generalize cm x y = r at *
  have N := Lib.hid (fun z ws => isnan_any z ws)
  by_cases h1 : x < y
  · rw [if_pos h1] at CM
    obtain rfl := CM.out
    go_enter Try.func50, Try.ntmps50
    go_wp2_with (go_at_call 56; refine (N.out _ _).mono ?_; rintro e w' ⟨rfl, rfl⟩)
    go_ret
    exact ⟨rfl, rfl⟩
  · rw [if_neg h1] at CM
    by_cases h2 : y < x
    · rw [if_pos h2] at CM
      obtain rfl := CM.out
      go_enter Try.func50, Try.ntmps50
      go_wp2_with (go_at_call 56; refine (N.out _ _).mono ?_; rintro e w' ⟨rfl, rfl⟩)
      go_ret
      exact ⟨rfl, rfl⟩
    · rw [if_neg h2] at CM
      obtain rfl := CM.out
      go_enter Try.func50, Try.ntmps50
      go_wp2_with (go_at_call 56; refine (N.out _ _).mono ?_; rintro e w' ⟨rfl, rfl⟩)
      go_ret
      exact ⟨rfl, rfl⟩
set_option maxHeartbeats 400000 in
theorem cmp_any (x : Th) (n : Int) (w : World) : Calls Try.prog 49 #[tv x, .int .i64 n] w fun e w' => e = .returned (.int .i64 (cm x.id n)) ∧ Below w.heap.size w w' := by
  have hm := Lib.hid (made w (.cells #[.int .i64 x.id, .string x.nm, .int .i64 x.ow, .int .i64 x.kd, .int .i64 x.hs, .int .i64 x.sl] 46))
  have bx : Blk (w.alloc (.cells #[.int .i64 x.id, .string x.nm, .int .i64 x.ow, .int .i64 x.kd, .int .i64 x.hs, .int .i64 x.sl] 46)) w.heap.size 46 #[.int .i64 x.id, .string x.nm, .int .i64 x.ow, .int .i64 x.kd, .int .i64 x.hs, .int .i64 x.sl] := Blk.new _ _ _
  have c0 := bx.cell 0
  have CP := Lib.hid (fun ws => compare_any x.id n ws)
  clear bx
  generalize cm x.id n = r at *
  generalize hw1 : w.alloc (.cells #[.int .i64 x.id, .string x.nm, .int .i64 x.ow, .int .i64 x.kd, .int .i64 x.hs, .int .i64 x.sl] 46) = w1 at *
  obtain ⟨x0, x1, x2, x3, x4, x5⟩ := x
  dsimp only at c0 CP hw1
  go_enter Try.func49, Try.ntmps49
  go_wp2_with (rw [hw1])
  refine (CP.out _).mono ?_
  rintro e w2 ⟨rfl, rfl⟩
  go_wp2_with fail
  go_ret
  exact ⟨rfl, hm.out⟩
theorem ris_at {L : List Th} (h : Ris L) {a b : Nat} (hab : a < b) (hb : b < L.length) : L[a].id < L[b].id := List.pairwise_iff_getElem.1 h a b (by omega) hb hab
theorem fi_found {L : List Th} {n : Int} {k : Nat} (h : Ris L) (hk : k < L.length) (e : L[k].id = n) : fi (isId n) L = some k := fi_eq ⟨hk, by unfold isId; simpa using e, fun j hj => by
  have := ris_at h hj hk
  unfold isId
  simp
  omega⟩
theorem fi_not {L : List Th} {n : Int} {k : Nat} (h : Ris L) (hlo : ∀ j (hj : j < L.length), j < k → L[j].id < n) (hhi : ∀ j (hj : j < L.length), k ≤ j → n ≤ L[j].id) (hk : ∀ (hk : k < L.length), L[k].id ≠ n) : fi (isId n) L = none := fi_eq (fun j hj => by
  unfold isId
  simp
  rcases Nat.lt_trichotomy j k with q | q | q
  · have := hlo j hj q; omega
  · subst q; exact hk hj
  · have h1 := hhi k (by omega) (Nat.le_refl _)
    have h2 := ris_at h q hj
    omega)
def BsP (L : List Th) (n : Int) (w : World) (e : Ending) (w' : World) : Prop := ∃ i : Nat, e = .returned (.tuple #[.int .i64 i, .bool (fi (isId n) L).isSome]) ∧ (∀ j, fi (isId n) L = some j → i = j) ∧ Below w.heap.size w w'
set_option maxRecDepth 100000 in
set_option maxHeartbeats 4000000 in
theorem bsf_any (A : Option Addr) (c : Nat) (L : List Th) (n : Int) (w : World) (hA : Lay E6 w A L) (hr : Ris L) (hl : L.length ≤ 100000) :
    Calls Try.prog 48 #[.slice A L.length c, .int .i64 n, .func (.func 49) #[] #[]] w (BsP L n w) := by
  have HA := Lib.hid hA
  have R := Lib.hid hr
  have CP := Lib.hid (fun x ws => cmp_any x n ws)
  clear hA hr
  go_enter Try.func48, Try.ntmps48
  go_wp2_with fail
  go_loopw [9, 10] (fun i j wr => ∃ (a b : Nat) (W : World), W = wr ∧ i = .int .i64 a ∧ j = .int .i64 b ∧ a ≤ b ∧ b ≤ L.length ∧ (∀ k (hk : k < L.length), k < a → L[k].id < n) ∧ (∀ k (hk : k < L.length), b ≤ k → n ≤ L[k].id) ∧ Below w.heap.size w wr) (fun i j _ => (intOf j).toNat - (intOf i).toNat)
  case atStart => exact ⟨0, L.length, _, rfl, rfl, rfl, by omega, by omega, fun k _ h => by omega, fun k hk h => by omega, Below.refl _ _⟩
  case round =>
    obtain ⟨a, b, w2, rfl, rfl, rfl, hab, hbl, hlo, hhi, hb2⟩ := hrel
    have B2 := Lib.hid hb2
    have LO := Lib.hid hlo
    have HI := Lib.hid hhi
    clear hlo hhi
    by_cases hlt : a < b
    · have hm : (a + b) / 2 < L.length := by omega
      obtain ⟨bb, off, rfl, e0, e1, e2, e3, e4, e5⟩ := lay6 (HA.out.below hb2) hm
      have C := Lib.hid (CP.out L[(a + b) / 2] w2)
      obtain ⟨d, hd⟩ : ∃ d, d = L[(a + b) / 2] := ⟨_, rfl⟩
      rw [← hd] at e0 e1 e2 e3 e4 e5 C
      have DD := Lib.hid hd
      clear hd hb2
      obtain ⟨d0, d1, d2, d3, d4, d5⟩ := d
      dsimp only at e0 e1 e2 e3 e4 e5 C
      have CM := Lib.hid (show cm d0 n = if d0 < n then -1 else if n < d0 then 1 else 0 from rfl)
      generalize cm d0 n = r at *
      by_cases h1 : d0 < n
      · have hr1 : r < 0 := by rw [CM.out, if_pos h1]; omega
        have H1 := Lib.hid h1
        clear h1
        go_wp2_with fail
        refine C.out.mono ?_
        rintro e w3 ⟨rfl, hb3⟩
        have B3 := Lib.hid (up B2.out hb3 B2.out.size)
        clear hb3 C e0 e1 e2 e3 e4 e5
        go_wp2_with fail
        refine ⟨⟨(a + b) / 2 + 1, b, _, rfl, by rw [show ((a : Int) + (b : Int)) / 2 + 1 = (((a + b) / 2 + 1 : Nat) : Int) by omega], rfl, by omega, by omega, fun k hk h => ?_, HI.out, B3.out⟩, by simp [intOf]; omega⟩
        have h2 : L[(a + b) / 2].id < n := by rw [← DD.out]; exact H1.out
        rcases Nat.lt_or_ge k ((a + b) / 2) with q | q
        · have := ris_at R.out q hm; omega
        · obtain rfl : k = (a + b) / 2 := by omega
          exact h2
      · have hr1 : 0 ≤ r := by rw [CM.out, if_neg h1]; split <;> omega
        have H1 := Lib.hid h1
        clear h1
        go_wp2_with fail
        refine C.out.mono ?_
        rintro e w3 ⟨rfl, hb3⟩
        have B3 := Lib.hid (up B2.out hb3 B2.out.size)
        clear hb3 C e0 e1 e2 e3 e4 e5
        go_wp2_with fail
        refine ⟨⟨a, (a + b) / 2, _, rfl, rfl, by rw [show ((a : Int) + (b : Int)) / 2 = (((a + b) / 2 : Nat) : Int) by omega], by omega, by omega, LO.out, fun k hk h => ?_, B3.out⟩, by simp [intOf]; omega⟩
        have h2 : n ≤ L[(a + b) / 2].id := by rw [← DD.out]; have := H1.out; show n ≤ d0; omega
        rcases Nat.lt_or_ge ((a + b) / 2) k with q | q
        · have := ris_at R.out q hk; omega
        · obtain rfl : k = (a + b) / 2 := by omega
          exact h2
    · obtain rfl : a = b := by omega
      by_cases hal : a < L.length
      · obtain ⟨bb, off, rfl, e0, e1, e2, e3, e4, e5⟩ := lay6 (HA.out.below hb2) hal
        have C := Lib.hid (CP.out L[a] w2)
        have FF := Lib.hid (fi_found (n := n) R.out hal)
        have FN := Lib.hid (fun h : L[a].id ≠ n => fi_not R.out LO.out HI.out (fun _ => h))
        generalize L[a] = d at *
        clear hb2
        obtain ⟨d0, d1, d2, d3, d4, d5⟩ := d
        dsimp only at e0 e1 e2 e3 e4 e5 C FF FN
        have CM := Lib.hid (show cm d0 n = if d0 < n then -1 else if n < d0 then 1 else 0 from rfl)
        generalize cm d0 n = r at *
        by_cases h1 : d0 = n
        · obtain rfl : r = 0 := by rw [CM.out, if_neg (by omega), if_neg (by omega)]
          have FE := Lib.hid (FF.out h1)
          clear h1 CM FF FN
          go_wp2_with fail
          refine C.out.mono ?_
          rintro e w3 ⟨rfl, hb3⟩
          have B3 := Lib.hid (up B2.out hb3 B2.out.size)
          clear hb3 C e0 e1 e2 e3 e4 e5
          go_wp2_with fail
          go_ret2
          exact ⟨a, by rw [FE.out]; rfl, fun j hj => by rw [FE.out] at hj; injection hj, B3.out⟩
        · have hr0 : (r == 0) = false := by
            rw [CM.out]
            by_cases q : d0 < n
            · rw [if_pos q]; rfl
            · rw [if_neg q, if_pos (by omega)]; rfl
          have FE := Lib.hid (FN.out h1)
          clear h1 CM FF FN
          go_wp2_with fail
          refine C.out.mono ?_
          rintro e w3 ⟨rfl, hb3⟩
          have B3 := Lib.hid (up B2.out hb3 B2.out.size)
          clear hb3 C e0 e1 e2 e3 e4 e5
          go_wp2_with fail
          go_ret2
          first | exact ⟨a, by rw [FE.out]; rfl, (fun j hj => by rw [FE.out] at hj; cases hj), B3.out⟩ | exact ⟨by rw [FE.out]; rfl, (fun j hj => by rw [FE.out] at hj; cases hj), B3.out⟩ | exact ⟨by rw [FE.out], (fun j hj => by rw [FE.out] at hj; cases hj), B3.out⟩
      · have FE := Lib.hid (fi_not R.out LO.out HI.out (fun h => absurd h hal))
        clear hb2
        go_wp2_with fail
        go_ret2
        first | exact ⟨a, by rw [FE.out]; rfl, (fun j hj => by rw [FE.out] at hj; cases hj), B2.out⟩ | exact ⟨by rw [FE.out]; rfl, (fun j hj => by rw [FE.out] at hj; cases hj), B2.out⟩ | exact ⟨by rw [FE.out], (fun j hj => by rw [FE.out] at hj; cases hj), B2.out⟩
set_option maxHeartbeats 1000000 in
theorem find_any {n : Int} (H : TAt w B g m L nx K) (hr : Ris L) (hl : L.length ≤ 100000) :
    Calls Try.prog 37 #[.pointer (some ⟨g, 0, none⟩), .int .i64 n] w (BsP L n w) := by
  obtain ⟨A, c, h1, _, h2, _⟩ := H.open_
  have IX := Lib.hid (bsf_any A c L n w h2 hr hl)
  have c0 := h1.cell 0
  clear H h1 h2 hr
  go_enter Try.func37, Try.ntmps37
  go_wp2_with fail
  refine IX.out.mono ?_
  rintro e w' ⟨i, rfl, hj, hb⟩
  have B := Lib.hid hb
  have J := Lib.hid hj
  clear hb hj c0 IX
  go_wp2_with fail
  go_ret2
  exact ⟨i, rfl, J.out, B.out⟩
set_option maxHeartbeats 400000 in
theorem len_any (H : TAt w B g m L nx K) : Calls Try.prog 29 #[.pointer (some ⟨g, 0, none⟩)] w fun e w' => e = .returned (.int .i64 (L.length : Nat)) ∧ w = w' := by
  obtain ⟨A, c, h1, _, h2, _⟩ := H.open_
  have c0 := h1.cell 0
  clear H h1 h2
  go_enter Try.func29, Try.ntmps29
  go_wp2_with fail
  go_ret
  exact ⟨rfl, rfl⟩
set_option maxHeartbeats 400000 in
theorem next_any (H : TAt w B g m L nx K) : Calls Try.prog 35 #[.pointer (some ⟨g, 0, none⟩)] w fun e w' => e = .returned (.int .i64 nx) ∧ w = w' := by
  obtain ⟨A, c, h1, _, h2, _⟩ := H.open_
  have c0 := h1.cell 2
  clear H h1 h2
  go_enter Try.func35, Try.ntmps35
  go_wp2_with fail
  go_ret
  exact ⟨rfl, rfl⟩
end Go.Proofs.Ytckdfdnhoionnaa.tg
