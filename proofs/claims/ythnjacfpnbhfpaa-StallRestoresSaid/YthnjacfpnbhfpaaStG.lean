/-
  Sums and differences of gold, over this seat.
-/
import Derived.Test.YthnjacfpnbhfpaaBase
namespace Go.Proofs.Ythnjacfpnbhfpaa.gold
open Go.RowKit
open base (Nums ret_bool ret_int)
set_option linter.unusedVariables false

def isRight (n : Int) : Bool := decide (0 ≤ n ∧ n ≤ 1099511627776)
theorem right_yes {n : Int} (h : isRight n = true) : 0 ≤ n ∧ n ≤ 1099511627776 := by simpa [isRight] using h
theorem right_no {n : Int} (h : isRight n = false) : n < 0 ∨ 1099511627776 < n := by
  simp [isRight] at h; omega
theorem right_mk {n : Int} (h0 : 0 ≤ n) (h1 : n ≤ 1099511627776) : isRight n = true := by simp [isRight, h0, h1]
theorem ret_ints {a b c d : Int} (h : a = c) (h' : b = d) : Ending.returned (.tuple #[.int .i64 a, .int .i64 b]) = .returned (.tuple #[.int .i64 c, .int .i64 d]) := by rw [h, h']

set_option maxHeartbeats 400000 in
theorem right_any (n : Int) (w : World) :
    Calls Try.prog 35 #[.int .i64 n] w fun e w' => e = .returned (.bool (isRight n)) ∧ w = w' := by
  go_enter Try.func35, Try.ntmps35
  go_wp2
  all_goals (go_ret; exact ⟨ret_bool (by simp [isRight]; omega), rfl⟩)

/-! Sum -/
def SumPost (zs : List Int) (w : World) (e : Ending) (w' : World) : Prop :=
  ((zs.all isRight = false ∧ e = .returned (.tuple #[.int .i64 0, .int .i64 11])) ∨
   (zs.all isRight = true ∧ 1099511627776 < zs.sum ∧ e = .returned (.tuple #[.int .i64 0, .int .i64 15])) ∨
   (zs.all isRight = true ∧ zs.sum ≤ 1099511627776 ∧ e = .returned (.tuple #[.int .i64 zs.sum, .int .i64 0]))) ∧ w = w'

theorem sum_nn : ∀ (zs : List Int), zs.all isRight = true → 0 ≤ zs.sum
  | [], _ => by simp
  | z :: zs, h => by
    simp only [List.all_cons, Bool.and_eq_true] at h
    have := right_yes h.1
    have := sum_nn zs h.2
    simp; omega

def SumAt (zs : List Int) (k : Nat) (t : Int) (o : Bool) : Prop :=
  (zs.take k).all isRight = true ∧ 0 ≤ t ∧ t ≤ 1099511627776 ∧ (o = false → t = (zs.take k).sum) ∧ (o = true → 1099511627776 < (zs.take k).sum)

theorem take_next {zs : List Int} {k : Nat} (h : k < zs.length) : zs.take (k + 1) = zs.take k ++ [zs.getD k 0] := by
  rw [List.take_succ_eq_append_getElem h]; simp [List.getD, List.getElem?_eq_getElem h]

theorem SumAt.bad {zs : List Int} {k : Nat} (hk : k < zs.length) (h : isRight (zs.getD k 0) = false) : zs.all isRight = false := by
  rw [List.all_eq_false]
  exact ⟨zs.getD k 0, by simp [List.getD, List.getElem?_eq_getElem hk], by rw [h]; decide⟩

theorem SumAt.bd {zs : List Int} {k : Nat} {t : Int} {o : Bool} (H : SumAt zs k t o) : 0 ≤ t ∧ t ≤ 1099511627776 := ⟨H.2.1, H.2.2.1⟩

theorem SumAt.stay {zs : List Int} {k : Nat} {t : Int} {o : Bool} (hk : k < zs.length) (h : isRight (zs.getD k 0) = true) (H : SumAt zs k t o)
    (hov : o = true ∨ 1099511627776 - t < zs.getD k 0) : SumAt zs (k + 1) t true := by
  obtain ⟨a, b, c, d, e⟩ := H
  have r := right_yes h
  refine ⟨by rw [take_next hk]; simp [a]; simpa using h, b, c, by simp, fun _ => ?_⟩
  rw [take_next hk, List.sum_append]
  simp only [List.sum_cons, List.sum_nil]
  cases o
  · have := d rfl
    simp at hov
    simp only [List.getD_eq_getElem?_getD] at *
    omega
  · have := e rfl
    omega

theorem SumAt.go {zs : List Int} {k : Nat} {t : Int} (hk : k < zs.length) (h : isRight (zs.getD k 0) = true) (H : SumAt zs k t false)
    (hov : zs.getD k 0 ≤ 1099511627776 - t) : SumAt zs (k + 1) (t + zs.getD k 0) false := by
  obtain ⟨a, b, c, d, e⟩ := H
  have r := right_yes h
  refine ⟨by rw [take_next hk]; simp [a]; simpa using h, by omega, by omega, fun _ => ?_, by simp⟩
  rw [take_next hk, List.sum_append]
  simp only [List.sum_cons, List.sum_nil]
  have := d rfl
  omega

theorem SumAt.fin {zs : List Int} {t : Int} {w : World} {e : Ending} (H : SumAt zs zs.length t false) (he : e = .returned (.tuple #[.int .i64 t, .int .i64 0])) : SumPost zs w e w := by
  obtain ⟨a, b', c, d, _⟩ := H
  simp only [List.take_length] at a d
  have := d trivial
  exact ⟨Or.inr (Or.inr ⟨a, by omega, by rw [he, this]⟩), rfl⟩
theorem SumAt.fin2 {zs : List Int} {t : Int} {w : World} {e : Ending} (H : SumAt zs zs.length t true) (he : e = .returned (.tuple #[.int .i64 0, .int .i64 15])) : SumPost zs w e w := by
  obtain ⟨a, b', c, _, d⟩ := H
  simp only [List.take_length] at a d
  have := d trivial
  exact ⟨Or.inr (Or.inl ⟨a, by omega, he⟩), rfl⟩

set_option maxHeartbeats 1000000 in
theorem sum_any (A : Option Addr) (cap : Nat) (zs : List Int) (w : World) (hbig : zs.length ≤ 9223372036854775807) (hn : Nums .i64 w A zs) :
    Calls Try.prog 43 #[.slice A zs.length cap] w (SumPost zs w) := by
  have N := Lib.hid hn
  clear hn
  go_enter Try.func43, Try.ntmps43
  go_wp2
  go_loop [4, 5, 10] (fun t o i => ∃ (k : Nat) (tt : Int) (oo : Bool), k ≤ zs.length ∧ i = .int .i64 k ∧ t = .int .i64 tt ∧ o = .bool oo ∧ SumAt zs k tt oo) (fun _ _ i => zs.length - (intOf i).toNat)
  case atStart => exact ⟨0, 0, false, Nat.zero_le _, rfl, rfl, rfl, by simp [SumAt]⟩
  case round =>
    obtain ⟨k, tt, oo, hk, rfl, rfl, rfl, hs⟩ := hrel
    obtain ⟨ht0, ht1⟩ := hs.bd
    have H := Lib.hid hs
    clear hs
    by_cases hlt : k < zs.length
    · obtain ⟨b, off, rfl, _, hc⟩ := N.out (by omega)
      have hcell := hc k (by omega)
      have C := Lib.hid hc
      clear hc
      generalize hy : zs.getD k 0 = y at hcell
      have Y := Lib.hid hy
      clear hy
      cases hr : isRight y
      · have R := Lib.hid hr
        go_wp2_with (go_at_call 35; refine (right_any _ _).mono ?_; rintro e w' ⟨rfl, rfl⟩)
        go_ret2
        have := SumAt.bad hlt (by rw [Y.out]; exact R.out)
        exact ⟨Or.inl ⟨this, rfl⟩, rfl⟩
      · have R := Lib.hid hr
        have hy2 := right_yes hr
        cases oo
        · by_cases hov : 1099511627776 - tt < y
          · have hov2 := hov
            go_wp2_with (go_at_call 35; refine (right_any _ _).mono ?_; rintro e w' ⟨rfl, rfl⟩)
            go_round
            case rel => exact ⟨k + 1, tt, true, by omega, by go_num, rfl, rfl, H.out.stay hlt (by rw [Y.out]; exact R.out) (Or.inr (by rw [Y.out]; exact hov2))⟩
            case measure => simp [intOf] <;> omega
          · have hov2 := hov
            go_wp2_with (go_at_call 35; refine (right_any _ _).mono ?_; rintro e w' ⟨rfl, rfl⟩)
            go_round
            case rel => exact ⟨k + 1, tt + y, false, by omega, by go_num, rfl, rfl, by have := H.out.go hlt (by rw [Y.out]; exact R.out) (by rw [Y.out]; omega); rwa [Y.out] at this⟩
            case measure => simp [intOf] <;> omega
        · go_wp2_with (go_at_call 35; refine (right_any _ _).mono ?_; rintro e w' ⟨rfl, rfl⟩)
          go_round
          case rel => exact ⟨k + 1, tt, true, by omega, by go_num, rfl, rfl, H.out.stay hlt (by rw [Y.out]; exact R.out) (Or.inl rfl)⟩
          case measure => simp [intOf] <;> omega
    · obtain rfl : k = zs.length := by omega
      cases oo
      · go_wp2
        go_ret2
        exact H.out.fin rfl
      · go_wp2
        go_ret2
        exact H.out.fin2 rfl

theorem sum_of {zs : List Int} {w w' : World} {e : Ending} (h : SumPost zs w e w') : w = w' ∧
    (zs.all isRight = false → e = .returned (.tuple #[.int .i64 0, .int .i64 11])) ∧
    (zs.all isRight = true → 1099511627776 < zs.sum → e = .returned (.tuple #[.int .i64 0, .int .i64 15])) ∧
    (zs.all isRight = true → zs.sum ≤ 1099511627776 → e = .returned (.tuple #[.int .i64 zs.sum, .int .i64 0])) := by
  obtain ⟨h, rfl⟩ := h
  refine ⟨rfl, ?_, ?_, ?_⟩
  · intro a; rcases h with h | h | h
    · exact h.2
    · rw [a] at h; simp at h
    · rw [a] at h; simp at h
  · intro a b; rcases h with h | h | h
    · rw [a] at h; simp at h
    · exact h.2.2
    · omega
  · intro a b; rcases h with h | h | h
    · rw [a] at h; simp at h
    · omega
    · exact h.2.2

/-! Add: the world gets new blocks -/
theorem pair_cells (w : World) (a b : Int) : Nums .i64 (w.alloc (.cells #[.int .i64 a, .int .i64 b] 3)) (some ⟨w.heap.size, 0, none⟩) [a, b] := by
  refine fun _ => ⟨w.heap.size, 0, rfl, by simp, ?_⟩
  intro j hj
  match j, hj with
  | 0, _ => simp
  | 1, _ => simp

def AddPost (a b : Int) (w : World) (e : Ending) (w' : World) : Prop :=
  ((isRight a && isRight b) = false → e = .returned (.tuple #[.int .i64 0, .int .i64 11])) ∧
  ((isRight a && isRight b) = true → 1099511627776 < a + b → e = .returned (.tuple #[.int .i64 0, .int .i64 15])) ∧
  ((isRight a && isRight b) = true → a + b ≤ 1099511627776 → e = .returned (.tuple #[.int .i64 (a + b), .int .i64 0])) ∧ Below w.heap.size w w'

set_option maxHeartbeats 400000 in
theorem add_any (a b : Int) (w : World) :
    Calls Try.prog 36 #[.int .i64 a, .int .i64 b] w (AddPost a b w) := by
  have hc := pair_cells w a b
  have C := Lib.hid hc
  clear hc
  go_enter Try.func36, Try.ntmps36
  go_wp2_with fail
  refine (sum_any _ _ [a, b] _ (by simp) C.out).mono ?_
  rintro e w' h
  obtain ⟨rfl, h1, h2, h3⟩ := sum_of h
  clear h
  cases hr : (isRight a && isRight b)
  · obtain rfl := h1 (by simpa using hr)
    clear h1 h2 h3
    go_wp2
    go_ret2
    exact ⟨fun _ => rfl, by simp [hr], by simp [hr], (Below.refl _ _).alloc (Nat.le_refl _) _⟩
  · by_cases hs : a + b ≤ 1099511627776
    · obtain rfl := h3 (by simpa using hr) (by simpa using hs)
      clear h1 h2 h3
      go_wp2
      go_ret2
      exact ⟨by simp [hr], by omega, fun _ _ => by simp, (Below.refl _ _).alloc (Nat.le_refl _) _⟩
    · obtain rfl := h2 (by simpa using hr) (by simp; omega)
      clear h1 h2 h3
      go_wp2
      go_ret2
      exact ⟨by simp [hr], fun _ _ => by simp, by omega, (Below.refl _ _).alloc (Nat.le_refl _) _⟩

end Go.Proofs.Ythnjacfpnbhfpaa.gold
